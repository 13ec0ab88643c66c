package servo_test

import (
	"math"
	"testing"

	"horologe/api"
	"horologe/servo"
	"horologe/span"
)

const (
	top    = 1 << 62
	second = 1000000000
)

var none = span.Unknown()

func made(t *testing.T, ppb int) *servo.Servo {
	t.Helper()
	s, e := servo.New(ppb)
	if e != api.OK || s == nil {
		t.Fatalf("P14.1: New(%d): %v, %d", ppb, s, e)
	}
	return s
}

// told is a servo that was told of o at that time, and of nothing else.
func told(t *testing.T, ppb int, o span.Span, at int) *servo.Servo {
	t.Helper()
	s := made(t, ppb)
	if !s.Observe(o, at) {
		t.Fatalf("P14.3: New(%d).Observe(%v, %d): false", ppb, o, at)
	}
	return s
}

// checkKnows asks what is known at the time at which it was told last.
func checkKnows(t *testing.T, s *servo.Servo, o span.Span, at, count int) {
	t.Helper()
	if last, is := s.Last(); last != at || !is {
		t.Errorf("P14.1: Last: %d, %v, not %d", last, is, at)
	}
	if n := s.Count(); n != count {
		t.Errorf("P14.1: Count: %d, not %d", n, count)
	}
	if r := s.Read(at); r != o {
		t.Errorf("P14.2: Read(%d): %v, not %v", at, r, o)
	}
}

func checkKnowsNothing(t *testing.T, s *servo.Servo) {
	t.Helper()
	if last, is := s.Last(); last != 0 || is {
		t.Errorf("P14.1: Last: %d, %v, though nothing is known", last, is)
	}
	if n := s.Count(); n != 0 {
		t.Errorf("P14.1: Count: %d, though nothing is known", n)
	}
	for _, at := range times() {
		if r := s.Read(at); r != none {
			t.Errorf("P14.2: Read(%d): %v, though nothing is known", at, r)
		}
		if m := s.Master(at); m != none {
			t.Errorf("P14.2: Master(%d): %v, though nothing is known", at, m)
		}
	}
}

// times are small ones at their edges, and then others.
func times() []int {
	return []int{0, 1, -1, 5, -5, second, -second, top / 2, -top / 2, top - 1, 1 - top, top, -top, top + 1, -top - 1, math.MaxInt, math.MinInt}
}

func isSmall(n int) bool { return -top <= n && n <= top }

// wrong are spans of which nobody may be told.
func wrong() []span.Span {
	return []span.Span{
		none, {Lo: 1, Hi: 2}, {Lo: 0, Hi: 1}, {Lo: -1}, {Hi: math.MinInt},
		{Lo: 2, Hi: 1, Known: true}, {Lo: 1, Hi: 0, Known: true}, {Lo: math.MaxInt, Hi: math.MinInt, Known: true},
		{Lo: 0, Hi: top + 1, Known: true}, {Lo: -top - 1, Hi: 0, Known: true}, {Lo: math.MinInt, Hi: math.MaxInt, Known: true}, {Lo: math.MinInt, Hi: math.MinInt, Known: true},
	}
}

func rightRates() []int {
	return []int{0, 1, 1000, second / 3, second - 1, second}
}

func TestNew(t *testing.T) {
	for _, ppb := range rightRates() {
		checkKnowsNothing(t, made(t, ppb))
	}
	for _, ppb := range []int{-1, -2, -second, math.MinInt, second + 1, 1 << 32, 1<<32 + 5, top, math.MaxInt} {
		if s, e := servo.New(ppb); s != nil || e != api.ErrArg {
			t.Errorf("P14.1: New(%d): %v, %d", ppb, s, e)
		}
	}
}

func TestByHand(t *testing.T) {
	s := told(t, 1000, span.Of(0, 10), 0)
	if r := s.Read(second); r != span.Of(-1000, 1010) {
		t.Errorf("P14.2: Read behind a second: %v", r)
	}
	if m := s.Master(second); m != span.Of(second-1000, second+1010) {
		t.Errorf("P14.2: Master behind a second: %v", m)
	}
	if !s.Observe(span.Of(1005, 2000), second) {
		t.Error("P14.3: an observation that agrees tells false")
	}
	checkKnows(t, s, span.Of(1005, 1010), second, 2)
	if s.Observe(span.Of(1011, 1012), second) {
		t.Error("P14.3: an observation that does not agree tells true")
	}
	checkKnows(t, s, span.Of(1011, 1012), second, 1)
	if !s.Observe(span.Of(0, 5000), second+1) {
		t.Error("P14.3: a wide observation that agrees tells false")
	}
	// A thousand billionths of a nanosecond are rounded up.
	checkKnows(t, s, span.Of(1010, 1013), second+1, 2)
	s.Reset()
	checkKnowsNothing(t, s)
	if !s.Observe(span.Of(-7, -3), -5) {
		t.Error("P14.3: behind Reset the first observation tells false")
	}
	checkKnows(t, s, span.Of(-7, -3), -5, 1)
}

func TestRead(t *testing.T) {
	for _, x := range []struct {
		ppb  int
		o    span.Span
		told int
		at   int
		want span.Span
	}{
		{0, span.Of(3, 4), 0, top, span.Of(3, 4)},
		{0, span.Of(3, 4), 5, 5, span.Of(3, 4)},
		{0, span.Of(3, 4), 5, 4, none},
		{1, span.Of(3, 4), 5, 6, span.Of(2, 5)},
		{1, span.Of(3, 4), 5, 5 + second, span.Of(2, 5)},
		{1, span.Of(3, 4), 5, 6 + second, span.Of(1, 6)},
		{second, span.Of(3, 4), -5, 5, span.Of(-7, 14)},
		{second, span.Of(3, 4), -5, -6, none},
		{second, span.Of(3, 4), -5, math.MinInt, none},
		{1000, span.Of(0, 0), 0, 3 * second, span.Of(-3000, 3000)},
		// Times that are not small, of which the offset would be known.
		{0, span.Of(3, 4), 0, top + 1, none},
		{0, span.Of(3, 4), top, top + 1, none},
		{0, span.Of(3, 4), top, math.MaxInt, none},
		{0, span.Of(3, 4), top, math.MinInt, none},
		{0, span.Of(3, 4), top, top, span.Of(3, 4)},
		{0, span.Of(3, 4), -top, -top, span.Of(3, 4)},
		{0, span.Of(3, 4), -top, -top - 1, none},
		// As much as is small may pass, and no more.
		{0, span.Of(3, 4), -top, 0, span.Of(3, 4)},
		{0, span.Of(3, 4), -top, 1, none},
		{0, span.Of(3, 4), -top, top - 1, none},
		{0, span.Of(3, 4), -top, top, none},
		{0, span.Of(3, 4), -1, top - 1, span.Of(3, 4)},
		{0, span.Of(3, 4), -1, top, none},
		// Bounds that leave what is small.
		{second, span.Of(0, 0), 0, top, span.Of(-top, top)},
		{second, span.Of(0, 1), 0, top, none},
		{second, span.Of(-1, 0), 0, top, none},
		{1, span.Of(0, top), 0, 0, span.Of(0, top)},
		{1, span.Of(0, top), 0, 1, none},
		{1, span.Of(-top, 0), 0, 1, none},
	} {
		s := told(t, x.ppb, x.o, x.told)
		if r := s.Read(x.at); r != x.want {
			t.Errorf("P14.2: of %v at %d, by %d: Read(%d): %v, not %v", x.o, x.told, x.ppb, x.at, r, x.want)
		}
		if m := s.Master(x.at); m != x.want.Shift(x.at) {
			t.Errorf("P14.2: of %v at %d, by %d: Master(%d): %v", x.o, x.told, x.ppb, x.at, m)
		}
		checkKnows(t, s, x.o, x.told, 1)
	}
}

func TestMaster(t *testing.T) {
	for _, x := range []struct {
		o    span.Span
		at   int
		want span.Span
	}{
		{span.Of(3, 4), 100, span.Of(103, 104)},
		{span.Of(-4, -3), 100, span.Of(96, 97)},
		{span.Of(-4, 3), -100, span.Of(-104, -97)},
		{span.Of(0, 0), top, span.Of(top, top)},
		{span.Of(-1, 0), top, span.Of(top-1, top)},
		{span.Of(0, 1), top, none},
		{span.Of(1, 1), top, none},
		{span.Of(-1, -1), -top, none},
		{span.Of(-1, 0), -top, none},
		{span.Of(0, top), -top, span.Of(-top, 0)},
	} {
		s := told(t, 1000, x.o, x.at)
		if m := s.Master(x.at); m != x.want {
			t.Errorf("P14.2: of %v: Master(%d): %v, not %v", x.o, x.at, m, x.want)
		}
	}
}

func TestReset(t *testing.T) {
	for _, ppb := range rightRates() {
		s := told(t, ppb, span.Of(3, 4), 100)
		s.Observe(span.Of(3, 3), 100)
		s.Reset()
		checkKnowsNothing(t, s)
		s.Reset()
		checkKnowsNothing(t, s)
		// It has no time that others must not be before, and the rate that it had.
		if !s.Observe(span.Of(-9, 9), -top) {
			t.Error("P14.1: behind Reset no earlier time is heard")
		}
		checkKnows(t, s, span.Of(-9, 9), -top, 1)
		if r, want := s.Read(0), span.Drift(span.Of(-9, 9), top, ppb); r != want {
			t.Errorf("P14.1: behind Reset Read goes by another rate than %d: %v, not %v", ppb, r, want)
		}
	}
}
