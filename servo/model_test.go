package servo_test

import (
	"math"
	"math/big"
	"testing"

	"horologe/servo"
	"horologe/span"
)

// model goes by the chapter's words, with exact numbers: nil bounds are unknown.
type model struct {
	ppb, at, count int
	lo, hi         *big.Int
}

func number(n int) *big.Int { return big.NewInt(int64(n)) }

func small(n *big.Int) bool { return n.CmpAbs(number(top)) <= 0 }

// partsUp is passed ppb / 10^9, rounded up.
func partsUp(passed *big.Int, ppb int) *big.Int {
	n := new(big.Int).Mul(passed, number(ppb))
	n.Add(n, number(second-1))
	return n.Div(n, number(second))
}

func (m *model) read(at int) (lo, hi *big.Int) {
	if m.lo == nil || !isSmall(at) || at < m.at {
		return nil, nil
	}
	passed := new(big.Int).Sub(number(at), number(m.at))
	if !small(passed) {
		return nil, nil
	}
	by := partsUp(passed, m.ppb)
	lo, hi = new(big.Int).Sub(m.lo, by), new(big.Int).Add(m.hi, by)
	if !small(lo) || !small(hi) {
		return nil, nil
	}
	return lo, hi
}

// answer says which way an observation went.
type answer int

const (
	refused answer = iota
	first
	agreed
	apart
	beyond
	kinds
)

func (a answer) tells() bool { return a == first || a == agreed }

func isRight(o span.Span) bool {
	return o.Known && isSmall(o.Lo) && isSmall(o.Hi) && o.Lo <= o.Hi
}

func (m *model) observe(o span.Span, at int) answer {
	if !isRight(o) || !isSmall(at) || m.lo != nil && at < m.at {
		return refused
	}
	was := m.lo != nil
	lo, hi := m.read(at)
	m.at = at
	switch {
	case lo == nil || lo.Cmp(number(o.Hi)) > 0 || hi.Cmp(number(o.Lo)) < 0:
		m.lo, m.hi, m.count = number(o.Lo), number(o.Hi), 1
		if !was {
			return first
		}
		if lo == nil {
			return beyond
		}
		return apart
	default:
		m.lo, m.hi = lo, hi
		if n := number(o.Lo); n.Cmp(lo) > 0 {
			m.lo = n
		}
		if n := number(o.Hi); n.Cmp(hi) < 0 {
			m.hi = n
		}
		m.count++
		return agreed
	}
}

func (m *model) reset() { *m = model{ppb: m.ppb} }

func spanOf(lo, hi *big.Int) span.Span {
	if lo == nil || !small(lo) || !small(hi) {
		return none
	}
	return span.Span{Lo: int(lo.Int64()), Hi: int(hi.Int64()), Known: true}
}

func shifted(lo, hi *big.Int, by int) span.Span {
	if lo == nil {
		return none
	}
	return spanOf(new(big.Int).Add(lo, number(by)), new(big.Int).Add(hi, number(by)))
}

func checkModel(t *testing.T, s *servo.Servo, m *model, at int) {
	t.Helper()
	lo, hi := m.read(at)
	if r := s.Read(at); r != spanOf(lo, hi) {
		t.Fatalf("P14.2: of %v: Read(%d): %v", *m, at, r)
	}
	if r := s.Master(at); r != shifted(lo, hi, at) {
		t.Fatalf("P14.2: of %v: Master(%d): %v", *m, at, r)
	}
	if n := s.Count(); n != m.count {
		t.Fatalf("P14.1: of %v: Count: %d", *m, n)
	}
	if last, is := s.Last(); last != m.at || is != (m.lo != nil) {
		t.Fatalf("P14.1: of %v: Last: %d, %v", *m, last, is)
	}
}

// numbers is a rule that makes numbers, alike at every run.
func numbers(x uint64) func(n int) int {
	return func(n int) int {
		x ^= x << 13
		x ^= x >> 7
		x ^= x << 17
		return int(x >> 1 % uint64(n))
	}
}

// about makes numbers of all lengths, on either side of 0.
func about(take func(int) int) int {
	n := take(math.MaxInt) >> take(63)
	if take(2) == 0 {
		return -n - take(2)
	}
	return n
}

// anySpan may be wrong in every way; mostly it is right.
func anySpan(take func(int) int) span.Span {
	switch take(12) {
	case 0:
		l := wrong()
		return l[take(len(l))]
	case 1:
		return span.Span{Lo: about(take), Hi: about(take), Known: true}
	case 2:
		return span.Of(take(2)*top-top, top-take(3))
	case 3:
		return span.Of(about(take), top)
	}
	lo := take(3000) - 1500
	return span.Of(lo, lo+take(800))
}

// anyTime is mostly not far behind the last one.
func anyTime(take func(int) int, last int) int {
	switch take(12) {
	case 0:
		return about(take)
	case 1:
		l := times()
		return l[take(len(l))]
	case 2:
		return last - take(3)
	case 3:
		return last
	}
	return last + take(1000)*take(1000)
}

func TestMixedCallsAgainstExactNumbers(t *testing.T) {
	take := numbers(88172645463325252)
	var seen [kinds]int
	known, unknown := 0, 0
	for range 1500 {
		ppb := []int{0, 1, 1000, 1000000, second / 3, second - 1, second, take(second + 1)}[take(8)]
		s, m := made(t, ppb), &model{ppb: ppb}
		for range 40 {
			if take(15) == 0 {
				s.Reset()
				m.reset()
			}
			o, at := anySpan(take), anyTime(take, m.at)
			want := m.observe(o, at)
			if ok := s.Observe(o, at); ok != want.tells() {
				t.Fatalf("P14.3: Observe(%v, %d): %v; then %v", o, at, ok, *m)
			}
			seen[want]++
			later := anyTime(take, m.at)
			checkModel(t, s, m, later)
			checkModel(t, s, m, at)
			if s.Read(later).Known {
				known++
			} else {
				unknown++
			}
		}
	}
	for i, n := range seen {
		if n < 300 {
			t.Errorf("too few went the way %d: %d", i, n)
		}
	}
	if known < 3000 || unknown < 3000 {
		t.Errorf("too few were known, or unknown: %d, %d", known, unknown)
	}
}

// TestEdgesAgainstExactNumbers has two observations at each two edges of times.
func TestEdgesAgainstExactNumbers(t *testing.T) {
	spans := []span.Span{span.Of(0, 0), span.Of(-3, 5), span.Of(0, top), span.Of(-top, 0), span.Of(-top, top), span.Of(top, top), span.Of(top/2, top-1)}
	spans = append(spans, wrong()[:7]...)
	for _, ppb := range []int{0, 1, 1000, second / 2, second} {
		for _, one := range spans {
			for _, two := range spans {
				for _, a := range times() {
					for _, b := range times() {
						s, m := made(t, ppb), &model{ppb: ppb}
						if ok := s.Observe(one, a); ok != m.observe(one, a).tells() {
							t.Fatalf("P14.3: Observe(%v, %d): %v", one, a, ok)
						}
						checkModel(t, s, m, b)
						if ok := s.Observe(two, b); ok != m.observe(two, b).tells() {
							t.Fatalf("P14.3: Observe(%v, %d), then Observe(%v, %d): %v", one, a, two, b, ok)
						}
						checkModel(t, s, m, b)
					}
				}
			}
		}
	}
}
