package civil_test

import (
	"math"
	"strconv"
	"strings"
	"testing"
	"time"

	"horologe/civil"
)

// longByRule goes by the library's calendar: day 0 of a month is the last one of the month ahead of it.
func longByRule(year, month int) int {
	if month < 1 || month > 12 {
		return 0
	}
	return time.Date(year, time.Month(month)+1, 0, 0, 0, 0, 0, time.UTC).Day()
}

func within(n, low, high int) bool { return low <= n && n <= high }

func rightByRule(l civil.Label) bool {
	if !within(l.Year, 1970, 9999) || !within(l.Day, 1, longByRule(l.Year, l.Month)) {
		return false
	}
	if l.Sec == 60 {
		return l.Hour == 23 && l.Min == 59
	}
	return within(l.Hour, 0, 23) && within(l.Min, 0, 59) && within(l.Sec, 0, 59)
}

func secByRule(l civil.Label) int {
	return int(time.Date(l.Year, time.Month(l.Month), l.Day, l.Hour, l.Min, l.Sec, 0, time.UTC).Unix())
}

func ofByRule(sec int) civil.Label {
	at := time.Unix(int64(sec), 0).UTC()
	return civil.Label{Year: at.Year(), Month: int(at.Month()), Day: at.Day(), Hour: at.Hour(), Min: at.Minute(), Sec: at.Second()}
}

func textByRule(l civil.Label) string {
	var b strings.Builder
	for i, n := range fields(&l) {
		s := strconv.Itoa(*n)
		long := 2
		if i == 0 {
			long = 4
		}
		b.WriteString(strings.Repeat("0", long-len(s)) + s)
		if i < 5 {
			b.WriteByte("--T::"[i])
		}
	}
	return b.String()
}

// numbers is a rule that makes numbers, alike at every run.
func numbers(x uint64) func(n int) int {
	return func(n int) int {
		x ^= x << 13
		x ^= x >> 7
		x ^= x << 17
		return int(x >> 1 % uint64(n))
	}
}

// about makes numbers of all lengths, on either side of 0.
func about(take func(int) int) int {
	n := take(math.MaxInt) >> take(63)
	if take(2) == 0 {
		return -n - take(2)
	}
	return n
}

// anyLabel has numbers that are often at the edges of what may be, and now and then anywhere.
func anyLabel(take func(int) int) civil.Label {
	low, high := [6]int{1970, 1, 1}, [6]int{9999, 12, 31, 23, 59, 59}
	var l civil.Label
	for i, n := range fields(&l) {
		switch take(40) {
		case 0:
			*n = about(take)
		case 1:
			*n = low[i] - take(2)
		case 2, 3, 4, 5, 6, 7, 8:
			*n = high[i]
		case 9:
			*n = high[i] + 1
		default:
			*n = low[i] + take(high[i]-low[i]+1)
		}
	}
	if take(4) == 0 {
		l.Hour, l.Min, l.Sec = 23, 59, 58+take(4)
	}
	if take(4) == 0 {
		l.Month, l.Day = 2, 27+take(4)
	}
	return l
}

func TestMixedLabelsAgainstTheLibrary(t *testing.T) {
	take := numbers(88172645463325252)
	right, wrong, sixty := 0, 0, 0
	for range 200000 {
		l := anyLabel(take)
		switch {
		case !rightByRule(l):
			checkWrong(t, l)
			wrong++
		case l.Sec == 60:
			checkLabel(t, l, secByRule(l), textByRule(l))
			sixty++
		default:
			checkSecond(t, l, secByRule(l), textByRule(l))
			right++
		}
		if long := longByRule(l.Year%100000, l.Month); civil.Long(l.Year%100000, l.Month) != long {
			t.Errorf("P15.1: Long(%d, %d): not %d", l.Year%100000, l.Month, long)
		}
		if t.Failed() {
			return
		}
	}
	if right < 10000 || wrong < 10000 || sixty < 5000 {
		t.Errorf("too few were right, wrong, or had a second 60: %d, %d, %d", right, wrong, sixty)
	}
}

func TestMixedSecondsAgainstTheLibrary(t *testing.T) {
	take := numbers(2463534242)
	is, none := 0, 0
	for range 200000 {
		n := take(lastSecond + 1)
		switch take(4) {
		case 0:
			n = about(take)
		case 1:
			n = n/daySeconds*daySeconds - take(2)
		}
		l, ok := civil.Of(n)
		switch {
		case within(n, 0, lastSecond):
			is++
			if want := ofByRule(n); l != want || !ok {
				t.Fatalf("P15.2: Of(%d): %v, %v, not %v", n, l, ok, want)
			}
		default:
			none++
			if l != zero || ok {
				t.Fatalf("P15.2: Of(%d): %v, %v, though there is none", n, l, ok)
			}
		}
	}
	if is < 50000 || none < 10000 {
		t.Errorf("too few seconds had a label, or had none: %d, %d", is, none)
	}
}

func TestMixedDaysAgainstTheLibrary(t *testing.T) {
	take := numbers(362436069)
	is, none := 0, 0
	for range 200000 {
		y, m, d := 1969+take(8032), take(14), take(34)
		at := time.Date(y, time.Month(m), d, 0, 0, 0, 0, time.UTC)
		if within(y, 1970, 9999) && at.Year() == y && int(at.Month()) == m && at.Day() == d {
			checkDay(t, y, m, d, int(at.Unix()/daySeconds))
			is++
		} else {
			checkNoDay(t, y, m, d)
			none++
		}
		if t.Failed() {
			return
		}
	}
	if is < 50000 || none < 10000 {
		t.Errorf("too few were days, or none: %d, %d", is, none)
	}
}

// TestLongOfMixedYears: the library's calendar repeats itself each 400 years, so that any year may be asked for.
func TestLongOfMixedYears(t *testing.T) {
	take := numbers(521288629)
	for range 20000 {
		year, month := about(take), 1+take(12)
		like := year%400 + 2000
		if n := civil.Long(year, month); n != longByRule(like, month) {
			t.Fatalf("P15.1: Long(%d, %d): %d", year, month, n)
		}
		if civil.Leap(year) != (longByRule(like, 2) == 29) {
			t.Fatalf("P15.1: Leap(%d): %v", year, civil.Leap(year))
		}
	}
}
