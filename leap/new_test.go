package leap_test

import (
	"math"
	"slices"
	"testing"

	"horologe/api"
	"horologe/leap"
)

func checkRefused(t *testing.T, first int, l []leap.Leap) {
	t.Helper()
	if x, e := leap.New(first, l); x != nil || e != api.ErrLeapForm {
		t.Errorf("P16.1: New(%d, %v): %v, %d", first, l, x, e)
	}
}

// many are leaps by their number, at days that rise by 2.
func many(n int) []leap.Leap {
	var l []leap.Leap
	for i := range n {
		l = append(l, leap.Leap{Day: 1 + 2*i, Sign: 1})
	}
	return l
}

func TestFirst(t *testing.T) {
	for _, first := range []int{0, 1, 37, firstMost - 1, firstMost} {
		x := made(t, first)
		for _, tai := range []int{math.MinInt, -1, 0, 1, first, 1 << 40, math.MaxInt} {
			checkOffset(t, x, tai, first)
		}
	}
	for _, first := range []int{math.MinInt, -firstMost, -1, firstMost + 1, 1 << 32, 1<<32 + 37, math.MaxInt} {
		checkRefused(t, first, nil)
		checkRefused(t, first, []leap.Leap{{Day: 5, Sign: 1}})
	}
}

func TestHowMany(t *testing.T) {
	for _, n := range []int{0, 1, 2, api.MaxLeaps - 1, api.MaxLeaps} {
		x := made(t, 10, many(n)...)
		checkOffset(t, x, 1<<40, 10+n)
	}
	for _, n := range []int{api.MaxLeaps + 1, api.MaxLeaps + 2, 4 * api.MaxLeaps} {
		checkRefused(t, 10, many(n))
	}
	x, e := leap.New(10, []leap.Leap{})
	if x == nil || e != api.OK {
		t.Errorf("P16.1: no leaps: %v, %d", x, e)
	}
}

func TestDays(t *testing.T) {
	for _, sign := range []int{1, -1} {
		for _, day := range []int{1, 2, newYear, lastDay - 1, lastDay} {
			x := made(t, 0, leap.Leap{Day: day, Sign: sign})
			checkOffset(t, x, 1<<40, sign)
		}
		for _, day := range []int{math.MinInt, -newYear, -1, 0, lastDay + 1, lastDay + 2, 1 << 32, 1<<32 + 5, math.MaxInt} {
			checkRefused(t, 0, []leap.Leap{{Day: day, Sign: sign}})
			checkRefused(t, 0, []leap.Leap{{Day: day, Sign: sign}, {Day: 9, Sign: 1}})
			checkRefused(t, 0, []leap.Leap{{Day: 9, Sign: 1}, {Day: day, Sign: sign}})
		}
	}
}

func TestSigns(t *testing.T) {
	for _, sign := range []int{math.MinInt, -1 << 32, -3, -2, 0, 2, 3, 1 << 32, 1<<32 + 1, math.MaxInt} {
		checkRefused(t, 0, []leap.Leap{{Day: 5, Sign: sign}})
		checkRefused(t, 0, []leap.Leap{{Day: 5, Sign: 1}, {Day: 7, Sign: sign}})
		checkRefused(t, 0, []leap.Leap{{Day: 5, Sign: sign}, {Day: 7, Sign: -1}})
	}
}

func TestDaysRise(t *testing.T) {
	for _, sign := range []int{1, -1} {
		first := leap.Leap{Day: 100, Sign: 1}
		for _, day := range []int{102, 103, lastDay} {
			x := made(t, 7, first, leap.Leap{Day: day, Sign: sign})
			checkOffset(t, x, 1<<40, 8+sign)
		}
		for _, day := range []int{1, 97, 98, 99, 100, 101} {
			checkRefused(t, 7, []leap.Leap{first, {Day: day, Sign: sign}})
			checkRefused(t, 7, []leap.Leap{{Day: 1, Sign: 1}, first, {Day: day, Sign: sign}})
			checkRefused(t, 7, []leap.Leap{first, {Day: day, Sign: sign}, {Day: lastDay, Sign: 1}})
		}
	}
}

// R5, R6: the list stays as it was, and the table as it is, whatever is written into the list.
func TestListStays(t *testing.T) {
	l := make([]leap.Leap, 2, 4)
	l[0], l[1] = leap.Leap{Day: 5, Sign: 1}, leap.Leap{Day: 7, Sign: -1}
	before := slices.Clone(l)
	x, e := leap.New(0, l)
	if e != api.OK || !slices.Equal(l, before) {
		t.Fatalf("P16.1: %d, and the list is %v", e, l)
	}
	l[0], l[1] = leap.Leap{}, leap.Leap{Day: 1000, Sign: 1}
	checkLabel(t, x, 6*daySeconds, "1970-01-06T23:59:60")
	checkLabel(t, x, 8*daySeconds, "1970-01-09T00:00:00")
	checkLabel(t, x, 1001*daySeconds, "1972-09-28T00:00:00")
	checkOffset(t, x, 1<<40, 0)
}

// Tables of their own do not tell of each other's leaps.
func TestTablesAreApart(t *testing.T) {
	x, y := made(t, 36, leap.Leap{Day: newYear, Sign: 1}), made(t, 5)
	checkLabel(t, x, 1483228836, "2016-12-31T23:59:60")
	checkLabel(t, y, 1483228805, "2017-01-01T00:00:00")
	checkOffset(t, x, 1<<40, 37)
	checkOffset(t, y, 1<<40, 5)
}
