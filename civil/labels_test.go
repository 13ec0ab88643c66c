package civil_test

import (
	"math"
	"testing"

	"horologe/civil"
)

// fields are where the numbers of a label stand.
func fields(l *civil.Label) [6]*int {
	return [6]*int{&l.Year, &l.Month, &l.Day, &l.Hour, &l.Min, &l.Sec}
}

// with is a label of which one number is another.
func with(l civil.Label, field, n int) civil.Label {
	*fields(&l)[field] = n
	return l
}

func TestLabelsAtEdges(t *testing.T) {
	l := civil.Label{Year: 2001, Month: 3, Day: 4, Hour: 5, Min: 6, Sec: 7}
	checkSecond(t, l, 983682367, "2001-03-04T05:06:07")
	right := [6][]int{{1970, 1971, 2000, 9998, 9999}, {1, 2, 11, 12}, {1, 2, 30, 31}, {0, 1, 22, 23}, {0, 1, 58, 59}, {0, 1, 58, 59}}
	wrong := [6][]int{{1969, 10000, 0, -1}, {0, 13, -1}, {0, 32, -1}, {-1, 24, 25, 60}, {-1, 60, 61}, {-1, 60, 61, 62}}
	for field := range right {
		for _, n := range right[field] {
			if x := with(l, field, n); !civil.Right(x) {
				t.Errorf("P15.2: Right(%v): false", x)
			}
		}
		for _, n := range append(wrong[field], 256, 1<<32, 1<<32+1, 1<<32+2000, math.MaxInt, math.MinInt, math.MinInt+1) {
			checkWrong(t, with(l, field, n))
		}
	}
	checkWrong(t, zero)
	checkWrong(t, civil.Label{Year: 2001, Month: 2, Day: 29})
	checkWrong(t, civil.Label{Year: 2001, Month: 4, Day: 31})
	checkLabel(t, civil.Label{Year: 2004, Month: 2, Day: 29}, 1078012800, "2004-02-29T00:00:00")
}

// TestSixty: a second 60 is right at the end of any day, and nowhere else.
func TestSixty(t *testing.T) {
	for h := range 24 {
		for m := range 60 {
			l := leapEnd
			l.Hour, l.Min = h, m
			if h == 23 && m == 59 {
				checkLabel(t, l, 1483228800, "2016-12-31T23:59:60")
			} else {
				checkWrong(t, l)
			}
		}
	}
	for _, x := range []struct{ field, n int }{{3, 24}, {3, -1}, {3, 0}, {3, 22}, {4, 60}, {4, -1}, {4, 0}, {4, 58}, {5, 61}, {5, 62}, {5, 120}, {0, 1969}, {0, 10000}, {1, 0}, {1, 11}, {1, 13}, {2, 0}, {2, 32}} {
		checkWrong(t, with(leapEnd, x.field, x.n))
	}
	checkLabel(t, civil.Label{Year: 1970, Month: 1, Day: 1, Hour: 23, Min: 59, Sec: 60}, daySeconds, "1970-01-01T23:59:60")
	checkLabel(t, civil.Label{Year: 2001, Month: 2, Day: 27, Hour: 23, Min: 59, Sec: 60}, 983318400, "2001-02-27T23:59:60")
	// It is right, though no label is that of the second behind it.
	checkLabel(t, civil.Label{Year: 9999, Month: 12, Day: 31, Hour: 23, Min: 59, Sec: 60}, lastSecond+1, "9999-12-31T23:59:60")
}

func TestSecondsAtEdges(t *testing.T) {
	checkSecond(t, civil.Label{Year: 1970, Month: 1, Day: 1}, 0, "1970-01-01T00:00:00")
	checkSecond(t, civil.Label{Year: 1970, Month: 1, Day: 1, Sec: 59}, 59, "1970-01-01T00:00:59")
	checkSecond(t, civil.Label{Year: 1970, Month: 1, Day: 1, Min: 1}, 60, "1970-01-01T00:01:00")
	checkSecond(t, civil.Label{Year: 1970, Month: 1, Day: 1, Min: 59, Sec: 59}, 3599, "1970-01-01T00:59:59")
	checkSecond(t, civil.Label{Year: 1970, Month: 1, Day: 1, Hour: 1}, 3600, "1970-01-01T01:00:00")
	checkSecond(t, civil.Label{Year: 1970, Month: 1, Day: 1, Hour: 23, Min: 59, Sec: 59}, daySeconds-1, "1970-01-01T23:59:59")
	checkSecond(t, civil.Label{Year: 1970, Month: 1, Day: 2}, daySeconds, "1970-01-02T00:00:00")
	checkSecond(t, civil.Label{Year: 2000, Month: 2, Day: 29, Hour: 12}, 951825600, "2000-02-29T12:00:00")
	checkSecond(t, civil.Label{Year: 2038, Month: 1, Day: 19, Hour: 3, Min: 14, Sec: 8}, 1<<31, "2038-01-19T03:14:08")
	checkSecond(t, civil.Label{Year: 2106, Month: 2, Day: 7, Hour: 6, Min: 28, Sec: 16}, 1<<32, "2106-02-07T06:28:16")
	checkSecond(t, civil.Label{Year: 9999, Month: 12, Day: 31, Hour: 23, Min: 59, Sec: 59}, lastSecond, "9999-12-31T23:59:59")
	for _, n := range []int{-1, -59, -60, -daySeconds + 1, -daySeconds, -daySeconds - 1, -1 << 32, math.MinInt, math.MinInt + 1, lastSecond + 1, lastSecond + 2, lastSecond + daySeconds, 1 << 38, 1 << 62, math.MaxInt} {
		if l, is := civil.Of(n); l != zero || is {
			t.Errorf("P15.2: Of(%d): %v, %v, though there is none", n, l, is)
		}
	}
}

// TestLess asks it of labels of which some numbers are like, and those behind the first that are unlike go the other way.
func TestLess(t *testing.T) {
	at := civil.Label{Year: 2001, Month: 3, Day: 4, Hour: 5, Min: 6, Sec: 7}
	for _, l := range []civil.Label{at, zero, leapEnd, {Year: -5, Month: 99, Day: -1, Hour: math.MaxInt - 1, Min: math.MinInt + 1, Sec: 60}} {
		checkLess(t, l, l, false)
		for field := range fields(&l) {
			more := l
			*fields(&more)[field]++
			checkLess(t, l, more, true)
			checkLess(t, more, l, false)
			for behind := field + 1; behind < 6; behind++ {
				*fields(&more)[behind] -= 2
			}
			checkLess(t, l, more, true)
			checkLess(t, more, l, false)
			checkLess(t, with(l, field, math.MinInt), with(l, field, math.MaxInt), true)
			checkLess(t, with(l, field, math.MaxInt), with(l, field, math.MinInt), false)
			checkLess(t, with(l, field, -1), with(l, field, 1), true)
		}
	}
	checkLess(t, leapEnd, civil.Label{Year: 2017, Month: 1, Day: 1}, true)
	checkLess(t, civil.Label{Year: 2017, Month: 1, Day: 1}, leapEnd, false)
	checkLess(t, with(leapEnd, 5, 59), leapEnd, true)
	checkLess(t, leapEnd, with(leapEnd, 5, 59), false)
}

func checkLess(t *testing.T, a, b civil.Label, want bool) {
	t.Helper()
	if is := civil.Less(a, b); is != want {
		t.Errorf("P15.2: Less(%v, %v): %v", a, b, is)
	}
}
