package span

import "horologe/wide"

const billion = 1000000000

// Drift is s, when so much has passed on a clock that may be wrong by ppb; Scale is s, measured by such a clock: each unknown, if ppb is not 0 to 10^9.
func Drift(s Span, passed, ppb int) Span {
	if passed < 0 || !isRate(ppb) {
		return Unknown()
	}
	by, ok := wide.Ceil(passed, ppb, billion)
	if !ok {
		return Unknown()
	}
	return s.Wider(by, by)
}

func Scale(s Span, ppb int) Span {
	if !isRate(ppb) || !s.bounded() {
		return Unknown()
	}
	around := func(m int) Span {
		return rounded(m, billion-ppb).Hull(rounded(m, billion+ppb))
	}
	return around(s.Lo).Hull(around(s.Hi))
}

func isRate(ppb int) bool { return 0 <= ppb && ppb <= billion }

// rounded is from m parts / 10^9, rounded down, to it rounded up: unknown, if one of them is not there.
func rounded(m, parts int) Span {
	down := func() (int, bool) { return wide.Floor(m, parts, billion) }
	up := func() (int, bool) { return wide.Ceil(m, parts, billion) }
	return between(down, up)
}
