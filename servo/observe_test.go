package servo_test

import (
	"math"
	"testing"

	"horologe/span"
)

func TestTheFirstObservation(t *testing.T) {
	for _, o := range []span.Span{span.Of(0, 0), span.Of(-5, 7), span.Of(-top, top), span.Of(top, top), span.Of(-top, -top)} {
		for _, at := range times() {
			s := made(t, 1000)
			if ok := s.Observe(o, at); ok != isSmall(at) {
				t.Errorf("P14.3: the first Observe(%v, %d): %v", o, at, ok)
			}
			if isSmall(at) {
				checkKnows(t, s, o, at, 1)
			} else {
				checkKnowsNothing(t, s)
			}
		}
	}
}

func TestWrongSpansAreRefused(t *testing.T) {
	s := made(t, 1000)
	for _, o := range wrong() {
		if s.Observe(o, 100) {
			t.Errorf("P14.3: the first Observe(%v): true", o)
		}
		checkKnowsNothing(t, s)
	}
	s.Observe(span.Of(3, 4), 100)
	s.Observe(span.Of(3, 4), 100)
	for _, o := range wrong() {
		for _, at := range []int{100, 101, top} {
			if s.Observe(o, at) {
				t.Errorf("P14.3: Observe(%v, %d): true", o, at)
			}
			checkKnows(t, s, span.Of(3, 4), 100, 2)
		}
	}
}

func TestWrongTimesAreRefused(t *testing.T) {
	for _, last := range []int{0, 100, -100, top, top - 1, -top, 1 - top} {
		s := told(t, 0, span.Of(3, 4), last)
		s.Observe(span.Of(3, 4), last)
		for _, at := range append(times(), last-1, last-2, top+1, top+2, -top-2) {
			if last <= at && at <= top {
				continue
			}
			for _, o := range []span.Span{span.Of(3, 4), span.Of(3, 3), span.Of(8, 9)} {
				if s.Observe(o, at) {
					t.Errorf("P14.3: behind %d Observe(%v, %d): true", last, o, at)
				}
				checkKnows(t, s, span.Of(3, 4), last, 2)
			}
		}
	}
}

// TestWhatAgrees has what is told behind 10 to 20, as 2 on either side may have passed.
func TestWhatAgrees(t *testing.T) {
	for _, x := range []struct {
		o, want span.Span
		agrees  bool
	}{
		{span.Of(10, 20), span.Of(10, 20), true},
		{span.Of(12, 15), span.Of(12, 15), true},
		{span.Of(8, 22), span.Of(8, 22), true},
		{span.Of(7, 23), span.Of(8, 22), true},
		{span.Of(-top, top), span.Of(8, 22), true},
		{span.Of(-5, 9), span.Of(8, 9), true},
		{span.Of(-5, 8), span.Of(8, 8), true},
		{span.Of(8, 8), span.Of(8, 8), true},
		{span.Of(-5, 7), span.Of(-5, 7), false},
		{span.Of(7, 7), span.Of(7, 7), false},
		{span.Of(21, 40), span.Of(21, 22), true},
		{span.Of(22, 40), span.Of(22, 22), true},
		{span.Of(22, 22), span.Of(22, 22), true},
		{span.Of(23, 40), span.Of(23, 40), false},
		{span.Of(23, 23), span.Of(23, 23), false},
		{span.Of(top, top), span.Of(top, top), false},
		{span.Of(-top, -top), span.Of(-top, -top), false},
	} {
		s := told(t, 1000, span.Of(10, 20), 50)
		s.Observe(span.Of(10, 20), 50)
		at := 50 + 2000000
		if ok := s.Observe(x.o, at); ok != x.agrees {
			t.Errorf("P14.3: Observe(%v): %v", x.o, ok)
		}
		count := 1
		if x.agrees {
			count = 3
		}
		checkKnows(t, s, x.want, at, count)
	}
}

func TestCount(t *testing.T) {
	s := made(t, 1000)
	for n := 1; n <= 500; n++ {
		if !s.Observe(span.Of(-n, n), n) || s.Count() != n {
			t.Fatalf("P14.1: behind %d that agreed: Count is %d", n, s.Count())
		}
	}
	if s.Observe(span.Of(600, 700), 500) || s.Count() != 1 {
		t.Errorf("P14.1: behind one that did not agree: Count is %d", s.Count())
	}
	if s.Observe(span.Of(800, 900), 500) || s.Count() != 1 {
		t.Errorf("P14.1: behind two that did not agree: Count is %d", s.Count())
	}
	if !s.Observe(span.Of(850, 950), 500) || s.Count() != 2 {
		t.Errorf("P14.1: behind one that agreed: Count is %d", s.Count())
	}
}

// TestWhatIsReckonedMayBeUnknown: it knew something, but what that has become is not small, and nothing agrees with it.
func TestWhatIsReckonedMayBeUnknown(t *testing.T) {
	for _, x := range []struct {
		ppb      int
		was      span.Span
		last, at int
	}{
		{1, span.Of(0, top), 0, 1},
		{1, span.Of(-top, 0), 0, 1},
		{second, span.Of(0, 1), 0, top},
		{0, span.Of(3, 4), -top, 1},
		{0, span.Of(3, 4), -top, top},
		{second, span.Of(3, 4), -top, top},
	} {
		s := told(t, x.ppb, x.was, x.last)
		s.Observe(x.was, x.last)
		if s.Count() != 2 || s.Read(x.at) != none {
			t.Fatalf("P14.2: Count %d, Read(%d): %v", s.Count(), x.at, s.Read(x.at))
		}
		if s.Observe(span.Of(3, 4), x.at) {
			t.Errorf("P14.3: behind %v at %d Observe(3 to 4, %d): true", x.was, x.last, x.at)
		}
		checkKnows(t, s, span.Of(3, 4), x.at, 1)
	}
}

// TestAtTheSameTime: the same time may be told of often, and each time more is known of it.
func TestAtTheSameTime(t *testing.T) {
	for _, at := range []int{0, -7, top, -top} {
		s := told(t, second, span.Of(-100, 100), at)
		for n := 99; n >= 0; n-- {
			if !s.Observe(span.Of(-n, 100), at) || !s.Observe(span.Of(-100, n), at) {
				t.Fatalf("P14.3: at %d and %d it tells false", at, n)
			}
		}
		checkKnows(t, s, span.Of(0, 0), at, 201)
	}
}

// TestServosAreApart: what one is told the other does not know.
func TestServosAreApart(t *testing.T) {
	one, two := made(t, 0), made(t, second)
	one.Observe(span.Of(1, 2), 3)
	checkKnowsNothing(t, two)
	two.Observe(span.Of(7, 9), 1)
	checkKnows(t, one, span.Of(1, 2), 3, 1)
	checkKnows(t, two, span.Of(7, 9), 1, 1)
	one.Reset()
	checkKnowsNothing(t, one)
	checkKnows(t, two, span.Of(7, 9), 1, 1)
	if two.Read(11) != span.Of(-3, 19) {
		t.Errorf("P14.2: Read(11): %v", two.Read(11))
	}
}

// TestAskingChangesNothing: whatever is asked, the same is told again.
func TestAskingChangesNothing(t *testing.T) {
	s := told(t, 1000, span.Of(3, 4), 100)
	s.Observe(span.Of(4, 9), 100)
	for _, at := range append(times(), 99, 100, 101, math.MaxInt-1) {
		first, master := s.Read(at), s.Master(at)
		if s.Read(at) != first || s.Master(at) != master {
			t.Errorf("R7: at %d another answer is told", at)
		}
		checkKnows(t, s, span.Of(4, 4), 100, 2)
	}
}
