package leap_test

import (
	"math"
	"testing"

	"horologe/leap"
	"horologe/span"
)

const second = 1000000000

// checkSpans asks for the labels of a span's bounds; an empty text is that of none.
func checkSpans(t *testing.T, n leap.Note, s span.Span, low, high string) {
	t.Helper()
	a, b, is := leap.Spans(n, s)
	if a != read(t, low) || b != read(t, high) || is != (low != "") {
		t.Errorf("P16.4: Spans(%+v, %v): %v, %v, %v, not %q, %q", n, s, a, b, is, low, high)
	}
}

func TestSpans(t *testing.T) {
	checkSpans(t, said61(36), span.Of(1483228835999999999, 1483228836000000000), "2016-12-31T23:59:59", "2016-12-31T23:59:60")
	checkSpans(t, said61(36), span.Of(1483228836000000000, 1483228836999999999), "2016-12-31T23:59:60", "2016-12-31T23:59:60")
	checkSpans(t, said61(36), span.Of(1483228836999999999, 1483228837000000000), "2016-12-31T23:59:60", "2017-01-01T00:00:01")
	checkSpans(t, said59(36), span.Of(1483228834999999999, 1483228835000000000), "2016-12-31T23:59:58", "2017-01-01T00:00:00")
	checkSpans(t, said(0), span.Of(0, 0), "1970-01-01T00:00:00", "1970-01-01T00:00:00")
	checkSpans(t, said(0), span.Of(0, second-1), "1970-01-01T00:00:00", "1970-01-01T00:00:00")
	checkSpans(t, said(0), span.Of(second-1, second), "1970-01-01T00:00:00", "1970-01-01T00:00:01")
	checkSpans(t, said(0), span.Of(0, 86400*second), "1970-01-01T00:00:00", "1970-01-02T00:00:00")
	checkSpans(t, said(0), span.Of(0, 1<<62), "1970-01-01T00:00:00", "2116-02-20T23:53:38")
	checkSpans(t, said(0), span.Of(1<<62, 1<<62), "2116-02-20T23:53:38", "2116-02-20T23:53:38")
	checkSpans(t, said(36), span.Of(36*second, 37*second), "1970-01-01T00:00:00", "1970-01-01T00:00:01")
}

func TestSpansRefuses(t *testing.T) {
	for _, n := range []leap.Note{said(0), said(-36), said61(0), said59(-36)} {
		for _, s := range []span.Span{
			span.Unknown(), span.Of(-1, 5), span.Of(-1, -1), span.Of(-second, second), span.Of(-1<<62, 1<<62), span.Of(-1<<62, 0),
			{Lo: 1, Hi: 2}, {Hi: 1}, {Lo: 5, Hi: 4, Known: true}, {Lo: 5, Hi: 1<<62 + 1, Known: true}, {Lo: 0, Hi: math.MaxInt, Known: true},
			{Lo: math.MinInt, Hi: math.MaxInt, Known: true}, {Lo: math.MaxInt, Hi: math.MaxInt, Known: true},
		} {
			checkSpans(t, n, s, "", "")
		}
	}
	// One bound alone has a label.
	checkSpans(t, said(36), span.Of(36*second-1, 36*second), "", "")
	checkSpans(t, said(36), span.Of(0, 1<<62), "", "")
	checkSpans(t, said59(5), span.Of(3*second, 4*second), "", "")
	checkSpans(t, said59(5), span.Of(4*second, 5*second), "1970-01-01T00:00:00", "1970-01-01T00:00:00")
	for _, n := range []leap.Note{{}, {Offset: 36}, {Leap61: true, Leap59: true, Valid: true}, said(offsetMost + 1), said(-offsetMost - 2)} {
		checkSpans(t, n, span.Of(1483228835999999999, 1483228836000000000), "", "")
	}
}
