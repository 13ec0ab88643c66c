package span_test

import (
	"math"
	"math/big"
	"testing"

	"horologe/span"
)

const (
	top     = 1 << 62
	billion = 1000000000
)

// edges are numbers at which signs and bounds turn over; those beyond top are wrong inputs.
func edges() []int {
	return []int{0, 1, -1, 7, -7, billion, top / 2, -top / 2, top - 1, 1 - top, top, -top, top + 1, -top - 1, math.MaxInt, math.MinInt}
}

// mixed are numbers of all lengths, made by a rule, alike at every run; some are beyond top.
func mixed(count int) []int {
	l := make([]int, count)
	x := uint64(88172645463325252)
	for i := range l {
		x ^= x << 13
		x ^= x >> 7
		x ^= x << 17
		l[i] = int(x) >> (i % 61)
	}
	return l
}

// raw are spans of all pairs of edges, right or not, with Known set and not.
func raw() []span.Span {
	var l []span.Span
	for _, lo := range edges() {
		for _, hi := range edges() {
			l = append(l, span.Span{Lo: lo, Hi: hi, Known: true})
		}
		l = append(l, span.Span{Lo: lo}, span.Span{Hi: lo}, span.Span{Lo: lo, Hi: lo})
	}
	return l
}

// mixedSpans are spans of all widths, some of them not right.
func mixedSpans(count int) []span.Span {
	n := mixed(2 * count)
	l := make([]span.Span, count)
	for i := range l {
		lo, hi := n[2*i], n[2*i+1]
		// One in five is left crossed, as it may be.
		if lo > hi && i%5 > 0 {
			lo, hi = hi, lo
		}
		l[i] = span.Span{Lo: lo, Hi: hi, Known: i%7 > 0}
	}
	return l
}

// tiny are the unknown span, and all spans from -3 to 3.
func tiny() []span.Span {
	l := []span.Span{{}}
	for lo := -3; lo <= 3; lo++ {
		for hi := lo; hi <= 3; hi++ {
			l = append(l, span.Span{Lo: lo, Hi: hi, Known: true})
		}
	}
	return l
}

func isSmall(l ...int) bool {
	for _, n := range l {
		if n < -top || n > top {
			return false
		}
	}
	return true
}

// isBounded tells whether s is right, and not unknown.
func isBounded(s span.Span) bool {
	return s.Known && isSmall(s.Lo, s.Hi) && s.Lo <= s.Hi
}

func exact(n int) *big.Int { return big.NewInt(int64(n)) }

func plus(a, b int) *big.Int { return new(big.Int).Add(exact(a), exact(b)) }

func minus(a, b int) *big.Int { return new(big.Int).Sub(exact(a), exact(b)) }

func times(a, b int) *big.Int { return new(big.Int).Mul(exact(a), exact(b)) }

// down is n / 10^9, rounded down; up is it rounded up.
func down(n *big.Int) *big.Int { return new(big.Int).Div(n, exact(billion)) }

func up(n *big.Int) *big.Int { return down(new(big.Int).Add(n, exact(billion-1))) }

func isBigSmall(n *big.Int) bool { return n.CmpAbs(exact(top)) <= 0 }

// told is the span of exact bounds, if right holds, and unknown else.
func told(lo, hi *big.Int, right bool) span.Span {
	if !right || !isBigSmall(lo) || !isBigSmall(hi) || lo.Cmp(hi) > 0 {
		return span.Span{}
	}
	return span.Span{Lo: int(lo.Int64()), Hi: int(hi.Int64()), Known: true}
}

func TestUnknown(t *testing.T) {
	if s := span.Unknown(); s != (span.Span{}) || !s.Right() {
		t.Error("P3.1: Unknown():", s)
	}
}

func TestOf(t *testing.T) {
	for _, x := range []struct {
		lo, hi int
		want   span.Span
	}{
		{1, 5, span.Span{Lo: 1, Hi: 5, Known: true}},
		{0, 0, span.Span{Known: true}},
		{-5, -5, span.Span{Lo: -5, Hi: -5, Known: true}},
		{-top, top, span.Span{Lo: -top, Hi: top, Known: true}},
		{top, top, span.Span{Lo: top, Hi: top, Known: true}},
		{-top, -top, span.Span{Lo: -top, Hi: -top, Known: true}},
		{2, 1, span.Span{}},
		{top, -top, span.Span{}},
		{0, top + 1, span.Span{}},
		{-top - 1, 0, span.Span{}},
		{top + 1, top + 2, span.Span{}},
		{-top - 2, -top - 1, span.Span{}},
		{math.MinInt, math.MaxInt, span.Span{}},
		{math.MaxInt, math.MinInt, span.Span{}},
	} {
		if s := span.Of(x.lo, x.hi); s != x.want {
			t.Errorf("P3.1: Of(%d, %d): %v", x.lo, x.hi, s)
		}
	}
	for _, lo := range edges() {
		for _, hi := range edges() {
			if s := span.Of(lo, hi); s != told(exact(lo), exact(hi), true) || !s.Right() {
				t.Errorf("P3.1: Of(%d, %d): %v", lo, hi, s)
			}
		}
	}
}

func TestRight(t *testing.T) {
	for _, s := range []span.Span{
		{}, {Known: true}, {Lo: 1, Hi: 5, Known: true}, {Lo: -top, Hi: top, Known: true}, {Lo: top, Hi: top, Known: true}, {Lo: -top, Hi: -top, Known: true},
	} {
		if !s.Right() {
			t.Errorf("P3.1: %v is not right", s)
		}
	}
	for _, s := range []span.Span{
		{Lo: 1}, {Hi: 1}, {Lo: 1, Hi: 5}, {Lo: -1, Hi: -1}, {Lo: 2, Hi: 1, Known: true}, {Lo: 0, Hi: -1, Known: true}, {Lo: 0, Hi: top + 1, Known: true},
		{Lo: -top - 1, Hi: 0, Known: true}, {Lo: top + 1, Hi: top + 1, Known: true}, {Lo: math.MinInt, Hi: math.MaxInt, Known: true}, {Lo: math.MaxInt, Hi: math.MinInt, Known: true},
	} {
		if s.Right() {
			t.Errorf("P3.1: %v is right", s)
		}
	}
	for _, s := range raw() {
		if s.Right() != (isBounded(s) || s == span.Span{}) {
			t.Errorf("P3.1: %v: Right: %v", s, s.Right())
		}
	}
}

func TestHas(t *testing.T) {
	for _, x := range []struct {
		s    span.Span
		n    int
		want bool
	}{
		{span.Of(1, 5), 0, false},
		{span.Of(1, 5), 1, true},
		{span.Of(1, 5), 3, true},
		{span.Of(1, 5), 5, true},
		{span.Of(1, 5), 6, false},
		{span.Of(-top, top), -top, true},
		{span.Of(-top, top), top, true},
		{span.Of(-top, top), top + 1, false},
		{span.Of(-top, top), -top - 1, false},
		{span.Of(-top, top), math.MinInt, false},
		{span.Unknown(), 0, true},
		{span.Unknown(), top + 1, true},
		{span.Unknown(), math.MinInt, true},
		{span.Unknown(), math.MaxInt, true},
		// These are not right, so every number is in them.
		{span.Span{Lo: 1, Hi: 5}, 9, true},
		{span.Span{Lo: 5, Hi: 1, Known: true}, 9, true},
		{span.Span{Lo: 0, Hi: top + 1, Known: true}, -1, true},
		{span.Span{Lo: -top - 1, Hi: 0, Known: true}, 1, true},
	} {
		if x.s.Has(x.n) != x.want {
			t.Errorf("P3.1: %v: Has(%d): %v", x.s, x.n, !x.want)
		}
	}
	for _, s := range raw() {
		for _, n := range edges() {
			if s.Has(n) != (!isBounded(s) || s.Lo <= n && n <= s.Hi) {
				t.Errorf("P3.1: %v: Has(%d): %v", s, n, s.Has(n))
			}
		}
	}
}

func TestWidth(t *testing.T) {
	for _, x := range []struct {
		s    span.Span
		want int
		is   bool
	}{
		{span.Of(1, 5), 4, true},
		{span.Of(-5, -1), 4, true},
		{span.Of(3, 3), 0, true},
		{span.Of(-top, 0), top, true},
		{span.Of(0, top), top, true},
		{span.Of(-1, top), 0, false},
		{span.Of(-top, 1), 0, false},
		{span.Of(-top, top), 0, false},
		{span.Unknown(), 0, false},
		{span.Span{Lo: 1, Hi: 5}, 0, false},
		{span.Span{Lo: 5, Hi: 1, Known: true}, 0, false},
		{span.Span{Lo: top, Hi: top + 1, Known: true}, 0, false},
		{span.Span{Lo: math.MinInt, Hi: math.MaxInt, Known: true}, 0, false},
	} {
		if n, is := x.s.Width(); n != x.want || is != x.is {
			t.Errorf("P3.1: %v: Width(): %d %v", x.s, n, is)
		}
	}
	for _, s := range append(raw(), mixedSpans(2000)...) {
		want, has := 0, false
		if w := minus(s.Hi, s.Lo); isBounded(s) && isBigSmall(w) {
			want, has = int(w.Int64()), true
		}
		if n, is := s.Width(); n != want || is != has {
			t.Errorf("P3.1: %v: Width(): %d %v", s, n, is)
		}
	}
}

func TestWithin(t *testing.T) {
	u := span.Unknown()
	wrong := span.Span{Lo: 5, Hi: 1, Known: true}
	for _, x := range []struct {
		s, o span.Span
		want bool
	}{
		{span.Of(1, 5), span.Of(1, 5), true},
		{span.Of(1, 5), span.Of(0, 6), true},
		{span.Of(1, 5), span.Of(2, 6), false},
		{span.Of(1, 5), span.Of(0, 4), false},
		{span.Of(1, 5), span.Of(2, 4), false},
		{span.Of(1, 5), span.Of(7, 9), false},
		{span.Of(1, 5), u, true},
		{span.Of(-top, top), u, true},
		{u, u, true},
		{u, span.Of(1, 5), false},
		// Every number is in an unknown one, so those beyond top are.
		{u, span.Of(-top, top), false},
		{span.Of(1, 5), wrong, true},
		{wrong, span.Of(-top, top), false},
		{wrong, wrong, true},
		{wrong, u, true},
		{u, wrong, true},
		{span.Span{Lo: 1, Hi: 2}, span.Of(1, 5), false},
	} {
		if x.s.Within(x.o) != x.want {
			t.Errorf("P3.1: %v within %v: %v", x.s, x.o, !x.want)
		}
	}
}

func TestWithinIsHavingEach(t *testing.T) {
	for _, s := range tiny() {
		for _, o := range tiny() {
			want := true
			for n := -4; n <= 4; n++ {
				if s.Has(n) && !o.Has(n) {
					want = false
				}
			}
			if s.Within(o) != want {
				t.Errorf("P3.1: %v within %v: %v", s, o, !want)
			}
		}
	}
}

func TestMadeByHand(t *testing.T) {
	u := span.Unknown()
	for _, x := range []struct {
		name      string
		got, want span.Span
	}{
		{"Add", span.Of(1, 2).Add(span.Of(10, 20)), span.Of(11, 22)},
		{"Add", span.Of(1, 2).Add(u), u},
		{"Add", u.Add(span.Of(1, 2)), u},
		{"Add", span.Of(0, top).Add(span.Of(0, 0)), span.Of(0, top)},
		{"Add", span.Of(0, top).Add(span.Of(0, 1)), u},
		{"Add", span.Of(-top, 0).Add(span.Of(-1, 0)), u},
		{"Add", span.Of(top, top).Add(span.Of(top, top)), u},
		{"Add", span.Of(-top, top).Add(span.Of(-top, top)), u},
		{"Sub", span.Of(1, 2).Sub(span.Of(10, 20)), span.Of(-19, -8)},
		{"Sub", span.Of(1, 2).Sub(u), u},
		{"Sub", u.Sub(span.Of(1, 2)), u},
		{"Sub", u.Sub(u), u},
		{"Sub", span.Of(-top, 0).Sub(span.Of(0, 0)), span.Of(-top, 0)},
		{"Sub", span.Of(-top, 0).Sub(span.Of(0, 1)), u},
		{"Sub", span.Of(0, top).Sub(span.Of(-1, 0)), u},
		{"Shift", span.Of(1, 2).Shift(-5), span.Of(-4, -3)},
		{"Shift", span.Of(1, 2).Shift(top - 2), span.Of(top-1, top)},
		{"Shift", span.Of(1, 2).Shift(top - 1), u},
		{"Shift", span.Of(-2, -1).Shift(1 - top), u},
		{"Shift", span.Of(-2, -1).Shift(top + 1), u},
		{"Shift", span.Of(1, 2).Shift(math.MinInt), u},
		{"Shift", span.Of(-2, -1).Shift(math.MaxInt), u},
		{"Shift", u.Shift(0), u},
		{"Wider", span.Of(1, 2).Wider(3, 4), span.Of(-2, 6)},
		{"Wider", span.Of(1, 2).Wider(0, 0), span.Of(1, 2)},
		{"Wider", span.Of(1, 2).Wider(-1, 0), u},
		{"Wider", span.Of(1, 2).Wider(0, -1), u},
		{"Wider", span.Of(1, 9).Wider(-1, -1), u},
		{"Wider", span.Of(0, 0).Wider(top, top), span.Of(-top, top)},
		{"Wider", span.Of(0, 0).Wider(top+1, 0), u},
		{"Wider", span.Of(0, 0).Wider(0, top+1), u},
		// The bound would be small, but the number that is told is not.
		{"Wider", span.Of(5, 9).Wider(top+1, 0), u},
		{"Wider", span.Of(-9, -5).Wider(0, top+1), u},
		{"Wider", span.Of(0, 0).Wider(math.MaxInt, math.MaxInt), u},
		{"Wider", span.Of(0, 0).Wider(math.MinInt, math.MinInt), u},
		{"Wider", u.Wider(1, 1), u},
		{"Meet", span.Of(1, 5).Meet(span.Of(4, 9)), span.Of(4, 5)},
		{"Meet", span.Of(4, 9).Meet(span.Of(1, 5)), span.Of(4, 5)},
		{"Meet", span.Of(1, 9).Meet(span.Of(4, 5)), span.Of(4, 5)},
		{"Meet", span.Of(1, 5).Meet(span.Of(5, 9)), span.Of(5, 5)},
		{"Meet", span.Of(1, 2).Meet(span.Of(3, 4)), u},
		{"Meet", span.Of(3, 4).Meet(span.Of(1, 2)), u},
		{"Meet", span.Of(1, 2).Meet(u), span.Of(1, 2)},
		{"Meet", u.Meet(span.Of(1, 2)), span.Of(1, 2)},
		{"Meet", u.Meet(u), u},
		{"Hull", span.Of(1, 2).Hull(span.Of(5, 6)), span.Of(1, 6)},
		{"Hull", span.Of(5, 6).Hull(span.Of(1, 2)), span.Of(1, 6)},
		{"Hull", span.Of(1, 6).Hull(span.Of(2, 5)), span.Of(1, 6)},
		{"Hull", span.Of(-top, 0).Hull(span.Of(0, top)), span.Of(-top, top)},
		{"Hull", span.Of(1, 2).Hull(u), u},
		{"Hull", u.Hull(span.Of(1, 2)), u},
		{"Hull", u.Hull(u), u},
	} {
		if x.got != x.want {
			t.Errorf("P3.2: %s: %v, not %v", x.name, x.got, x.want)
		}
	}
}

// wantMeet is told by its own words, as it alone takes unknown spans.
func wantMeet(s, o span.Span) span.Span {
	switch {
	case isBounded(s) && isBounded(o):
		return told(exact(max(s.Lo, o.Lo)), exact(min(s.Hi, o.Hi)), true)
	case isBounded(s):
		return s
	case isBounded(o):
		return o
	}
	return span.Span{}
}

func checkTwo(t *testing.T, s, o span.Span) {
	t.Helper()
	right := isBounded(s) && isBounded(o)
	if got := s.Add(o); got != told(plus(s.Lo, o.Lo), plus(s.Hi, o.Hi), right) {
		t.Errorf("P3.2: %v Add %v: %v", s, o, got)
	}
	if got := s.Sub(o); got != told(minus(s.Lo, o.Hi), minus(s.Hi, o.Lo), right) {
		t.Errorf("P3.2: %v Sub %v: %v", s, o, got)
	}
	if got := s.Hull(o); got != told(exact(min(s.Lo, o.Lo)), exact(max(s.Hi, o.Hi)), right) {
		t.Errorf("P3.2: %v Hull %v: %v", s, o, got)
	}
	if got := s.Meet(o); got != wantMeet(s, o) {
		t.Errorf("P3.2: %v Meet %v: %v", s, o, got)
	}
	if got := s.Within(o); got != (!isBounded(o) || right && o.Lo <= s.Lo && s.Hi <= o.Hi) {
		t.Errorf("P3.1: %v Within %v: %v", s, o, got)
	}
}

func TestTwoSpansAgainstExactNumbers(t *testing.T) {
	for _, s := range raw() {
		for _, o := range raw() {
			checkTwo(t, s, o)
		}
	}
	l := mixedSpans(20001)
	for i := range len(l) - 1 {
		checkTwo(t, l[i], l[i+1])
	}
}

func checkNumbers(t *testing.T, s span.Span, a, b int) {
	t.Helper()
	if got := s.Shift(a); got != told(plus(s.Lo, a), plus(s.Hi, a), isBounded(s) && isSmall(a)) {
		t.Errorf("P3.2: %v Shift %d: %v", s, a, got)
	}
	right := isBounded(s) && isSmall(a, b) && a >= 0 && b >= 0
	if got := s.Wider(a, b); got != told(minus(s.Lo, a), plus(s.Hi, b), right) {
		t.Errorf("P3.2: %v Wider %d, %d: %v", s, a, b, got)
	}
}

func TestShiftAndWiderAgainstExactNumbers(t *testing.T) {
	for _, s := range raw() {
		for _, a := range edges() {
			for _, b := range edges() {
				checkNumbers(t, s, a, b)
			}
		}
	}
	n := mixed(20001)
	for i, s := range mixedSpans(20000) {
		checkNumbers(t, s, n[i], n[i+1])
		checkNumbers(t, s, n[i]&math.MaxInt, n[i+1]&math.MaxInt)
	}
}
