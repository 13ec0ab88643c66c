package span_test

import (
	"testing"

	"horologe/span"
)

// members are numbers of s: its bounds, and some between and beyond them that it has.
func members(s span.Span) []int {
	var l []int
	for _, n := range append(edges(), s.Lo, s.Hi, s.Lo/2+s.Hi/2) {
		if s.Has(n) {
			l = append(l, n)
		}
	}
	return l
}

func checkMembers(t *testing.T, s, o span.Span, m, n int) {
	t.Helper()
	if s.Has(n) && o.Has(n) && !s.Meet(o).Has(n) {
		t.Errorf("P3.4: %d is in %v and %v, not in Meet", n, s, o)
	}
	if h := s.Hull(o); !h.Has(m) || !h.Has(n) {
		t.Errorf("P3.4: %d of %v, or %d of %v, is not in Hull %v", m, s, n, o, h)
	}
	// A sum that wraps round is in no span of bounds, nor need it be.
	if sum := plus(m, n); sum.IsInt64() && !s.Add(o).Has(m+n) {
		t.Errorf("P3.4: %d + %d is not in %v Add %v", m, n, s, o)
	}
	if less := minus(m, n); less.IsInt64() && !s.Sub(o).Has(m-n) {
		t.Errorf("P3.4: %d - %d is not in %v Sub %v", m, n, s, o)
	}
	if sum := plus(m, n); sum.IsInt64() && !s.Shift(n).Has(m+n) {
		t.Errorf("P3.4: %d + %d is not in %v Shift", m, n, s)
	}
}

func TestWhatIsInThem(t *testing.T) {
	l := append(tiny(), span.Of(-top, top), span.Of(top, top), span.Of(-top, -top), span.Of(0, top-1), span.Of(1-top, 5), span.Span{Lo: 2, Hi: 1, Known: true}, span.Span{Lo: 1})
	for _, s := range l {
		for _, o := range l {
			for _, m := range members(s) {
				for _, n := range members(o) {
					checkMembers(t, s, o, m, n)
				}
			}
		}
	}
}

// TestMeetIsWhatBothHave asks the other way round, too: nothing else is in it.
func TestMeetIsWhatBothHave(t *testing.T) {
	for _, s := range tiny() {
		for _, o := range tiny() {
			common := 0
			for n := -4; n <= 4; n++ {
				if s.Has(n) && o.Has(n) {
					common++
				}
			}
			meet := s.Meet(o)
			if common == 0 && meet != span.Unknown() {
				t.Errorf("P3.2: %v Meet %v: %v", s, o, meet)
			}
			for n := -4; n <= 4 && common > 0; n++ {
				if meet.Has(n) != (s.Has(n) && o.Has(n)) {
					t.Errorf("P3.4: %v Meet %v: Has(%d): %v", s, o, n, meet.Has(n))
				}
			}
		}
	}
}

func TestDriftAndScaleHaveAll(t *testing.T) {
	for _, s := range append(raw(), mixedSpans(1000)...) {
		for _, ppb := range rates() {
			if o := span.Scale(s, ppb); !s.Within(o) {
				t.Errorf("P3.4: Scale(%v, %d): %v", s, ppb, o)
			}
			for _, passed := range edges() {
				if o := span.Drift(s, passed, ppb); !s.Within(o) {
					t.Errorf("P3.4: Drift(%v, %d, %d): %v", s, passed, ppb, o)
				}
			}
		}
	}
}

// TestAllThatIsMadeIsRight: whatever goes in, what comes out may be.
func TestAllThatIsMadeIsRight(t *testing.T) {
	for _, s := range raw() {
		for _, o := range raw() {
			for _, made := range []span.Span{s.Add(o), s.Sub(o), s.Meet(o), s.Hull(o), s.Shift(o.Lo), s.Wider(o.Lo, o.Hi), span.Drift(s, o.Lo, o.Hi), span.Scale(s, o.Lo)} {
				if !made.Right() {
					t.Fatalf("P3.2: of %v and %v: %v", s, o, made)
				}
			}
		}
	}
}
