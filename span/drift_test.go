package span_test

import (
	"math"
	"math/big"
	"testing"

	"horologe/span"
)

// rates are right ones at their edges, and then wrong ones.
func rates() []int {
	return []int{0, 1, 3, 1000, billion / 10, billion/3 + 1, billion / 2, billion - 1, billion, billion + 1, -1, -billion, top, top + 1, math.MaxInt, math.MinInt}
}

func isRate(ppb int) bool { return ppb >= 0 && ppb <= billion }

func TestDriftByHand(t *testing.T) {
	u := span.Unknown()
	for _, x := range []struct {
		s           span.Span
		passed, ppb int
		want        span.Span
	}{
		{span.Of(0, 0), billion, 1000, span.Of(-1000, 1000)},
		{span.Of(0, 5), 1500000000, 3, span.Of(-5, 10)},
		{span.Of(0, 0), 1, 1, span.Of(-1, 1)},
		{span.Of(0, 0), billion, 1, span.Of(-1, 1)},
		{span.Of(0, 0), billion + 1, 1, span.Of(-2, 2)},
		{span.Of(3, 4), 0, billion, span.Of(3, 4)},
		{span.Of(3, 4), 100, 0, span.Of(3, 4)},
		{span.Of(3, 4), top, 0, span.Of(3, 4)},
		{span.Of(3, 4), 10, billion, span.Of(-7, 14)},
		{span.Of(0, 0), top, billion, span.Of(-top, top)},
		{span.Of(0, 1), top, billion, u},
		{span.Of(-1, 0), top, billion, u},
		{span.Of(0, top), 0, 1, span.Of(0, top)},
		{span.Of(0, top), 1, 1, u},
		{span.Of(-top, 0), 1, 1, u},
		{span.Of(3, 4), -1, 1, u},
		{span.Of(3, 4), -1, 0, u},
		{span.Of(3, 4), math.MinInt, 0, u},
		{span.Of(3, 4), 1, -1, u},
		{span.Of(3, 4), 0, -1, u},
		{span.Of(3, 4), 1, billion + 1, u},
		{span.Of(3, 4), 0, billion + 1, u},
		{span.Of(3, 4), 0, math.MaxInt, u},
		{span.Of(3, 4), 0, math.MinInt, u},
		{span.Of(3, 4), top + 1, 0, u},
		{span.Of(3, 4), math.MaxInt, 1, u},
		{u, 1, 1, u},
		{u, 0, 0, u},
		{span.Span{Lo: 1, Hi: 2}, 0, 0, u},
		{span.Span{Lo: 2, Hi: 1, Known: true}, 5, billion, u},
	} {
		if got := span.Drift(x.s, x.passed, x.ppb); got != x.want {
			t.Errorf("P3.3: Drift(%v, %d, %d): %v", x.s, x.passed, x.ppb, got)
		}
	}
}

func TestScaleByHand(t *testing.T) {
	u := span.Unknown()
	for _, x := range []struct {
		s    span.Span
		ppb  int
		want span.Span
	}{
		{span.Of(-10, 10), billion / 10, span.Of(-11, 11)},
		{span.Of(10, 20), billion / 10, span.Of(9, 22)},
		{span.Of(-20, -10), billion / 10, span.Of(-22, -9)},
		{span.Of(5, 7), 0, span.Of(5, 7)},
		{span.Of(5, 7), 1, span.Of(4, 8)},
		{span.Of(-7, -5), 1, span.Of(-8, -4)},
		{span.Of(5, 7), billion, span.Of(0, 14)},
		{span.Of(-7, -5), billion, span.Of(-14, 0)},
		{span.Of(-7, 5), billion, span.Of(-14, 10)},
		{span.Of(0, 0), billion, span.Of(0, 0)},
		{span.Of(-top, top), 0, span.Of(-top, top)},
		{span.Of(0, top), 1, u},
		{span.Of(-top, 0), 1, u},
		{span.Of(top, top), billion, u},
		{span.Of(0, top/2), billion, span.Of(0, top)},
		{span.Of(-top/2, 0), billion, span.Of(-top, 0)},
		{span.Of(0, top/2+1), billion, u},
		{span.Of(-top/2-1, 0), billion, u},
		{span.Of(5, 7), -1, u},
		{span.Of(5, 7), billion + 1, u},
		{span.Of(0, 0), -1, u},
		{span.Of(0, 0), billion + 1, u},
		{span.Of(0, 0), math.MaxInt, u},
		{span.Of(0, 0), math.MinInt, u},
		{u, 0, u},
		{u, 1000, u},
		{span.Span{Lo: 5, Hi: 7}, 1, u},
		{span.Span{Lo: 7, Hi: 5, Known: true}, 1, u},
		{span.Span{Lo: 0, Hi: top + 1, Known: true}, 0, u},
	} {
		if got := span.Scale(x.s, x.ppb); got != x.want {
			t.Errorf("P3.3: Scale(%v, %d): %v", x.s, x.ppb, got)
		}
	}
}

func wantDrift(s span.Span, passed, ppb int) span.Span {
	by := up(times(passed, ppb))
	lo, hi := new(big.Int).Sub(exact(s.Lo), by), new(big.Int).Add(exact(s.Hi), by)
	return told(lo, hi, isBounded(s) && isRate(ppb) && passed >= 0 && isSmall(passed))
}

// wantScale has the outermost of what both bounds may become, by exact numbers.
func wantScale(s span.Span, ppb int) span.Span {
	if !isBounded(s) || !isRate(ppb) {
		return span.Span{}
	}
	lo, hi := exact(math.MaxInt), exact(math.MinInt)
	for _, m := range []int{s.Lo, s.Hi} {
		for _, parts := range []int{billion - ppb, billion + ppb} {
			n := times(m, parts)
			if d := down(n); d.Cmp(lo) < 0 {
				lo = d
			}
			if u := up(n); u.Cmp(hi) > 0 {
				hi = u
			}
		}
	}
	return told(lo, hi, true)
}

func checkRate(t *testing.T, s span.Span, passed, ppb int) {
	t.Helper()
	if got := span.Drift(s, passed, ppb); got != wantDrift(s, passed, ppb) {
		t.Errorf("P3.3: Drift(%v, %d, %d): %v", s, passed, ppb, got)
	}
	if got := span.Scale(s, ppb); got != wantScale(s, ppb) {
		t.Errorf("P3.3: Scale(%v, %d): %v", s, ppb, got)
	}
}

func TestDriftAndScaleAgainstExactNumbers(t *testing.T) {
	for _, ppb := range rates() {
		for _, s := range raw() {
			for _, passed := range edges() {
				checkRate(t, s, passed, ppb)
			}
		}
		n := mixed(2000)
		for i, s := range mixedSpans(2000) {
			checkRate(t, s, n[i]&math.MaxInt, ppb)
		}
	}
}

// TestScaleHasAllThatMayBe goes by the meaning: n is in it, if it is no farther from some m of s than |m| ppb / 10^9.
func TestScaleHasAllThatMayBe(t *testing.T) {
	for _, s := range tiny()[1:] {
		for _, ppb := range []int{0, 1, billion / 3, billion / 2, billion - 1, billion} {
			got := span.Scale(s, ppb)
			for m := s.Lo; m <= s.Hi; m++ {
				for n := -7; n <= 7; n++ {
					if times(n-m, billion).CmpAbs(times(m, ppb)) <= 0 && !got.Has(n) {
						t.Errorf("P3.3: Scale(%v, %d): %v: %d is not in it", s, ppb, got, n)
					}
				}
			}
		}
	}
}
