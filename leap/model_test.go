package leap_test

import (
	"math"
	"slices"
	"testing"

	"horologe/civil"
	"horologe/leap"
	"horologe/span"
)

// model is a table by the words: when each leap happens, and the offset ahead of it.
type model struct {
	first  int
	leaps  []leap.Leap
	happen []int
	before []int
}

func modelOf(first int, l []leap.Leap) model {
	m := model{first: first, leaps: l}
	o := first
	for _, x := range l {
		b := x.Day*daySeconds + daySeconds // the days up to its Day, and with it
		if x.Sign == -1 {
			b--
		}
		m.happen = append(m.happen, b+o)
		m.before = append(m.before, o)
		o += x.Sign
	}
	return m
}

// in tells which leap's own second a time is: -1, if none's.
func (m model) in(tai int) int {
	for k, x := range m.leaps {
		if x.Sign == 1 && tai == m.happen[k] {
			return k
		}
	}
	return -1
}

func (m model) offset(tai int) int {
	if k := m.in(tai); k >= 0 {
		return m.before[k]
	}
	o := m.first
	for k, x := range m.leaps {
		if m.happen[k] <= tai {
			o += x.Sign
		}
	}
	return o
}

func (m model) label(tai int) (civil.Label, bool) {
	if tai < 0 || tai > 1<<62 {
		return noLabel, false
	}
	if k := m.in(tai); k >= 0 {
		l, is := civil.Of((m.leaps[k].Day+1)*daySeconds - 1)
		l.Sec++
		return l, is
	}
	return civil.Of(tai - m.offset(tai))
}

// tai tries each offset that ever is.
func (m model) tai(l civil.Label) (int, bool) {
	if sec, is := civil.Sec(l); is {
		for o := m.first - len(m.leaps); o <= m.first+len(m.leaps); o++ {
			if x, is := m.label(sec + o); is && x == l {
				return sec + o, true
			}
		}
	}
	return 0, false
}

func (m model) note(tai int) leap.Note {
	l, is := m.label(tai)
	if !is {
		return noNote
	}
	n := leap.Note{Offset: m.offset(tai), Valid: true}
	if l.Hour*3600+l.Min*60+l.Sec < 43200 {
		return n
	}
	for _, x := range m.leaps {
		if x.Day == numberOf(l) {
			n.Leap61, n.Leap59 = x.Sign == 1, x.Sign == -1
		}
	}
	return n
}

func byModel(n leap.Note, tai int) (civil.Label, bool) {
	if !n.Valid || n.Leap61 && n.Leap59 || n.Offset < -32768 || n.Offset > 32767 || tai < 0 || tai > 1<<40 {
		return noLabel, false
	}
	u := tai - n.Offset
	if n.Leap61 && u > 0 && u/daySeconds*daySeconds == u {
		l, is := civil.Of(u - 1)
		if is {
			l.Sec = 60
		}
		return l, is
	}
	if n.Leap59 && (u+1)/daySeconds*daySeconds == u+1 {
		return civil.Of(u + 1)
	}
	return civil.Of(u)
}

func spansByModel(n leap.Note, s span.Span) (low, high civil.Label, is bool) {
	if !s.Known || s.Lo < 0 || s.Lo > s.Hi || s.Hi > 1<<62 {
		return noLabel, noLabel, false
	}
	low, a := byModel(n, s.Lo/second)
	high, b := byModel(n, s.Hi/second)
	if !a || !b {
		return noLabel, noLabel, false
	}
	return low, high, true
}

// numbers is a rule that makes numbers, alike at every run.
func numbers(x uint64) func(n int) int {
	return func(n int) int {
		x ^= x << 13
		x ^= x >> 7
		x ^= x << 17
		return int(x >> 1 % uint64(n))
	}
}

// about makes numbers of all lengths, on either side of 0.
func about(take func(int) int) int {
	n := take(math.MaxInt) >> take(63)
	if take(2) == 0 {
		return -n - take(2)
	}
	return n
}

func anyFirst(take func(int) int) int {
	return []int{0, 1, 36, firstMost, take(firstMost + 1)}[take(5)]
}

// anyLeaps are right ones: some near to each other, and some anywhere.
func anyLeaps(take func(int) int) []leap.Leap {
	var l []leap.Leap
	many := []int{0, 1, 2, 3, 10, 64}[take(6)]
	near := take(2) == 0
	day := -1
	if take(2) == 0 {
		day = take(lastDay - 10000)
	}
	for range many {
		day += 2
		if day < 1 {
			day = 1
		}
		if near {
			day += take(3) / 2
		} else {
			day += take(20000)
		}
		if day > lastDay {
			break
		}
		l = append(l, leap.Leap{Day: day, Sign: 1 - 2*take(2)})
	}
	return l
}

// anyTai is often about a leap, or about noon of its day, and now and then anywhere.
func anyTai(take func(int) int, m model) int {
	switch at := take(12); {
	case at == 0:
		return about(take)
	case at == 1:
		return take(5) - 2 + m.first
	case at == 2:
		return lastSecond + m.first + take(140) - 70
	case at == 3 || len(m.leaps) == 0:
		return take(lastSecond)
	case at < 7:
		return m.happen[take(len(m.happen))] - daySeconds/2 + take(7) - 3
	}
	return m.happen[take(len(m.happen))] + take(7) - 3
}

func anyNote(take func(int) int) leap.Note {
	n := leap.Note{Offset: take(80) - 40, Valid: take(12) > 0}
	switch take(12) {
	case 0:
		n.Offset = about(take)
	case 1:
		n.Offset = 32766 + take(3)
	case 2:
		n.Offset = -32769 + take(3)
	}
	switch take(8) {
	case 0, 1, 2:
		n.Leap61 = true
	case 3, 4, 5:
		n.Leap59 = true
	case 6:
		n.Leap61, n.Leap59 = true, take(4) == 0
	}
	return n
}

func anyTaiBy(take func(int) int, n leap.Note) int {
	switch take(10) {
	case 0:
		return about(take)
	case 1:
		return take(5) - 2
	case 2:
		return 1<<40 + take(5) - 2
	case 3:
		return lastSecond + n.Offset + take(5) - 2
	case 4, 5:
		return take(lastSecond)
	case 6:
		return take(5) - 2 + n.Offset
	}
	return take(lastDay+3)*daySeconds + n.Offset + take(5) - 2
}

func TestTablesByModel(t *testing.T) {
	take := numbers(16)
	seen := map[string]int{}
	for range 3000 {
		l := anyLeaps(take)
		m := modelOf(anyFirst(take), l)
		x := made(t, m.first, slices.Clone(l)...)
		for range 30 {
			tai := anyTai(take, m)
			checkOffset(t, x, tai, m.offset(tai))
			want, wantIs := m.label(tai)
			got, is := x.Label(tai)
			if got != want || is != wantIs {
				t.Fatalf("P16.2: Label(%d) of %+v: %v, %v, not %v, %v", tai, m, got, is, want, wantIs)
			}
			note := m.note(tai)
			checkNote(t, x, tai, note)
			asked := anyAsked(take, m, want)
			n, wantIs := m.tai(asked)
			if o, is := x.Tai(asked); o != n || is != wantIs {
				t.Fatalf("P16.2: Tai(%v) of %+v: %d, %v, not %d, %v", asked, m, o, is, n, wantIs)
			}
			count(seen, note.Leap61, "61")
			count(seen, note.Leap59, "59")
			count(seen, want.Sec == 60, "put in")
			count(seen, !is, "no label")
			count(seen, is && note == said(note.Offset), "nothing soon")
			count(seen, wantIs && asked.Sec == 60, "time of one put in")
			count(seen, !wantIs && civil.Right(asked), "no such time")
		}
	}
	checkSeen(t, seen, 7, 300)
}

// anyAsked is the label itself, one at the end of its day, or one of a leap's day.
func anyAsked(take func(int) int, m model, l civil.Label) civil.Label {
	if len(m.leaps) > 0 && take(4) == 0 {
		l, _ = civil.Of(m.leaps[take(len(m.leaps))].Day * daySeconds)
	}
	switch take(3) {
	case 0:
		l.Hour, l.Min, l.Sec = 23, 59, 58+take(4)
	case 1:
		l.Hour, l.Min, l.Sec = take(25), take(61), take(61)
	}
	return l
}

func TestByModel(t *testing.T) {
	take := numbers(61)
	seen := map[string]int{}
	for range 200000 {
		n := anyNote(take)
		tai := anyTaiBy(take, n)
		want, wantIs := byModel(n, tai)
		if l, is := leap.By(n, tai); l != want || is != wantIs {
			t.Fatalf("P16.3: By(%+v, %d): %v, %v, not %v, %v", n, tai, l, is, want, wantIs)
		}
		count(seen, want.Sec == 60, "put in")
		count(seen, n.Leap59 && want.Hour+want.Min+want.Sec == 0 && wantIs, "behind one left out")
		count(seen, !wantIs, "no label")
		count(seen, wantIs && n == said(n.Offset), "nothing soon")
	}
	checkSeen(t, seen, 4, 1000)
}

func TestSpansByModel(t *testing.T) {
	take := numbers(614)
	seen := map[string]int{}
	for range 100000 {
		n := anyNote(take)
		at := take(50000)*daySeconds + n.Offset%100000 + take(3) - 1
		s := span.Of(at*second-take(3), at*second+take(3)+take(2)*take(1<<60))
		if take(10) == 0 {
			s = span.Span{Lo: about(take), Hi: about(take), Known: take(4) > 0}
		}
		low, high, wantIs := spansByModel(n, s)
		a, b, is := leap.Spans(n, s)
		if a != low || b != high || is != wantIs {
			t.Fatalf("P16.4: Spans(%+v, %v): %v, %v, %v, not %v, %v, %v", n, s, a, b, is, low, high, wantIs)
		}
		count(seen, !wantIs, "none")
		count(seen, wantIs && low == high, "alike")
		count(seen, wantIs && low != high, "unlike")
		count(seen, low.Sec == 60 || high.Sec == 60, "put in")
	}
	checkSeen(t, seen, 4, 500)
}

// R7: the same calls tell the same, also when others were made between them.
func TestTheSameCallsTellTheSame(t *testing.T) {
	take := numbers(7)
	for range 200 {
		l := anyLeaps(take)
		m := modelOf(anyFirst(take), l)
		x, y := made(t, m.first, l...), made(t, m.first, l...)
		var tais []int
		for range 20 {
			tais = append(tais, anyTai(take, m))
		}
		type told struct {
			offset int
			label  civil.Label
			is     bool
			note   leap.Note
		}
		ask := func(x *leap.Table, tai int) told {
			label, is := x.Label(tai)
			return told{x.Offset(tai), label, is, x.Note(tai)}
		}
		var first []told
		for _, tai := range tais {
			first = append(first, ask(x, tai))
		}
		for i := len(tais) - 1; i >= 0; i-- {
			if a, b := ask(x, tais[i]), ask(y, tais[i]); a != first[i] || b != first[i] {
				t.Fatalf("R7: of %d: %+v, %+v, not %+v", tais[i], a, b, first[i])
			}
		}
	}
}

func count(seen map[string]int, is bool, what string) {
	if is {
		seen[what]++
	}
}

func checkSeen(t *testing.T, seen map[string]int, kinds, least int) {
	t.Helper()
	if len(seen) != kinds {
		t.Errorf("only these were seen: %v", seen)
	}
	for what, n := range seen {
		if n < least {
			t.Errorf("%q was seen %d times alone", what, n)
		}
	}
}
