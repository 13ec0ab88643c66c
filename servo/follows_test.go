package servo_test

import (
	"testing"

	"horologe/servo"
	"horologe/span"
)

// course is how an offset goes on: in billionths of a nanosecond, as it need not be whole.
type course struct{ offset, at int }

// on lets time pass: the offset changes by no more than ppb says, often by as much as it may, and always the same way if so is wanted.
func (c *course) on(take func(int) int, passed, ppb, way int) {
	most := passed * ppb
	by := most
	if way == 0 {
		by = take(2*most+1) - most
	}
	if way < 0 {
		by = -most
	}
	c.offset += by
	c.at += passed
}

// around is an observation that has the offset, with whole bounds, often as near as may be.
func (c *course) around(take func(int) int) span.Span {
	lo, hi := floor(c.offset), -floor(-c.offset)
	return span.Of(lo-take(2)*take(3000), hi+take(2)*take(3000))
}

func floor(billionths int) int {
	n := billionths / second
	if billionths%second < 0 {
		n--
	}
	return n
}

func (c *course) isIn(s span.Span) bool {
	return !s.Known || s.Lo*second <= c.offset && c.offset <= s.Hi*second
}

func checkHas(t *testing.T, s *servo.Servo, c *course) {
	t.Helper()
	r := s.Read(c.at)
	if !r.Known || !c.isIn(r) {
		t.Fatalf("P14.4: at %d the offset %d (billionths) is not in %v", c.at, c.offset, r)
	}
	if m := s.Master(c.at); m != r.Shift(c.at) || !m.Known {
		t.Fatalf("P14.2: at %d the master's time is in %v, and Master tells %v", c.at, r.Shift(c.at), m)
	}
}

// TestTheOffsetIsInIt follows offsets that go on as ppb says: it has them always, and each observation agrees.
func TestTheOffsetIsInIt(t *testing.T) {
	take := numbers(2463534242)
	for range 600 {
		ppb := []int{0, 1, 37, 1000, 100000, 50000000, second}[take(7)]
		// Billionths of all that passes must not leave what a number holds.
		step := min(second, 1<<50/(ppb+1))
		c := &course{offset: take(1<<50) - 1<<49, at: take(1<<40) - 1<<39}
		s := made(t, ppb)
		way := take(3) - 1
		count := 0
		for range 40 {
			if o := c.around(take); !s.Observe(o, c.at) {
				t.Fatalf("P14.4: at %d %v has the offset %d, and Observe tells false", c.at, o, c.offset)
			} else if !s.Read(c.at).Within(o) {
				t.Fatalf("P14.4: at %d it knows %v, and was told %v", c.at, s.Read(c.at), o)
			}
			if count++; s.Count() != count {
				t.Fatalf("P14.1: %d agreed: Count is %d", count, s.Count())
			}
			checkHas(t, s, c)
			for range take(3) {
				c.on(take, take(step)+take(2), ppb, way)
				checkHas(t, s, c)
			}
		}
	}
}

// TestNeverWiderThanWhatWasObserved: whether it agreed or not.
func TestNeverWiderThanWhatWasObserved(t *testing.T) {
	take := numbers(362436069)
	agreed, apart := 0, 0
	for range 1000 {
		s, at := made(t, take(1000000)), 0
		for range 30 {
			at += take(3000000)
			lo := take(2000)
			o := span.Of(lo, lo+take(500))
			if s.Observe(o, at) {
				agreed++
			} else {
				apart++
			}
			if r := s.Read(at); !r.Known || !r.Within(o) {
				t.Fatalf("P14.4: at %d it knows %v, and was told %v", at, r, o)
			}
		}
	}
	if agreed < 1000 || apart < 1000 {
		t.Errorf("too few agreed, or did not: %d, %d", agreed, apart)
	}
}

// TestAllThatMayBeIsInIt has an offset that changes as fast as it may: it comes to the bounds that are told.
func TestAllThatMayBeIsInIt(t *testing.T) {
	for _, ppb := range []int{1, 1000, second / 2, second} {
		for _, passed := range []int{0, 1, 2, 999, second, 2*second + 1} {
			for _, way := range []int{-1, 1} {
				c := &course{offset: 7 * second}
				s := told(t, ppb, span.Of(7, 7), 0)
				c.on(nil, passed, ppb, way)
				r := s.Read(passed)
				by := -floor(-passed * ppb)
				if want := span.Of(7-by, 7+by); r != want {
					t.Errorf("P14.2: by %d, when %d passed: %v, not %v", ppb, passed, r, want)
				}
				checkHas(t, s, c)
				if !s.Observe(span.Of(floor(c.offset), -floor(-c.offset)), passed) {
					t.Errorf("P14.4: by %d, when %d passed: Observe tells false", ppb, passed)
				}
			}
		}
	}
}

// TestTheSameCallsTellTheSame: of two servos that are told the same.
func TestTheSameCallsTellTheSame(t *testing.T) {
	one, two := made(t, 1000), made(t, 1000)
	a, b := numbers(521288629), numbers(521288629)
	for range 2000 {
		o, at := anySpan(a), about(a)
		p, by := anySpan(b), about(b)
		if one.Observe(o, at) != two.Observe(p, by) || one.Count() != two.Count() || one.Read(at) != two.Read(by) {
			t.Fatalf("R7: behind Observe(%v, %d) other answers are told", o, at)
		}
		if a(20) == 0 {
			one.Reset()
		}
		if b(20) == 0 {
			two.Reset()
		}
	}
}
