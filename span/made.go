package span

import "horologe/wide"

// bound makes a bound of a span: with false, if there is none.
type bound func() (int, bool)

// between is the span of two bounds. They are made only if all the spans that they are made of are known, as the numbers of others mean nothing.
func between(low, high bound, known ...func() bool) Span {
	for _, is := range known {
		if !is() {
			return Unknown()
		}
	}
	lo, ok := low()
	if !ok {
		return Unknown()
	}
	hi, ok := high()
	if !ok {
		return Unknown()
	}
	return Of(lo, hi)
}

func sum(a, b int) bound {
	return func() (int, bool) { return wide.Add(a, b) }
}

func less(a, b int) bound {
	return func() (int, bool) { return wide.Sub(a, b) }
}

func exactly(n int) bound {
	return func() (int, bool) { return n, true }
}

// Add has all sums of the numbers of s and o; Sub all their differences.
func (s Span) Add(o Span) Span {
	return between(sum(s.Lo, o.Lo), sum(s.Hi, o.Hi), s.bounded, o.bounded)
}

func (s Span) Sub(o Span) Span {
	return between(less(s.Lo, o.Hi), less(s.Hi, o.Lo), s.bounded, o.bounded)
}

// Shift is s, moved by n; Wider is s, and so much more on either side.
func (s Span) Shift(n int) Span {
	return between(sum(s.Lo, n), sum(s.Hi, n), s.bounded)
}

func (s Span) Wider(low, high int) Span {
	if low < 0 || high < 0 {
		return Unknown()
	}
	return between(less(s.Lo, low), sum(s.Hi, high), s.bounded)
}

// Meet is what both have: an unknown span has all, so it takes nothing from the other one.
func (s Span) Meet(o Span) Span {
	if !s.bounded() {
		return o.told()
	}
	if !o.bounded() {
		return s
	}
	// Where they have nothing in common the bounds are crossed, and Of refuses them.
	return Of(max(s.Lo, o.Lo), min(s.Hi, o.Hi))
}

// Hull is from the lesser bound of both to the greater one: it has what lies between them, too.
func (s Span) Hull(o Span) Span {
	return between(exactly(min(s.Lo, o.Lo)), exactly(max(s.Hi, o.Hi)), s.bounded, o.bounded)
}
