package foreign_test

import (
	"math"
	"slices"
	"testing"

	"horologe/api"
)

func TestQualifiedOnceAlone(t *testing.T) {
	for _, first := range []int{0, 1, 100, api.Most} {
		x := table(t, every)
		hear(t, x, from(1), first, 2)
		for _, now := range []int{0, first - 1, first, first + 1, first + window - 1, first + window} {
			checkQualified(t, x, now)
		}
	}
}

func TestQualifiedTwice(t *testing.T) {
	x := table(t, every)
	hear(t, x, from(1), 100, 2)
	hear(t, x, said(sender(1), 7), 110, 1)
	for now := range 300 {
		if 110 <= now && now < 100+window {
			checkQualified(t, x, now, said(sender(1), 7))
		} else {
			checkQualified(t, x, now)
		}
	}
}

// TestQualifiedMoreOften: the last two times count, whatever came ahead of them.
func TestQualifiedMoreOften(t *testing.T) {
	x := table(t, every)
	times := []int{0, 10, 20, 55, 60, 100, 101, 101, 150, 190, 200}
	for i, at := range times {
		s := said(sender(1), i)
		hear(t, x, s, at, 2-min(i, 1))
		for now := range 300 {
			if i > 0 && at <= now && now < times[i-1]+window {
				checkQualified(t, x, now, s)
			} else {
				checkQualified(t, x, now)
			}
		}
	}
}

func TestQualifiedTwiceAtOneTime(t *testing.T) {
	for _, at := range []int{0, 1, 100, api.Most - window, api.Most} {
		x := table(t, every)
		hear(t, x, from(1), at, 2)
		hear(t, x, said(sender(1), 7), at, 1)
		checkQualified(t, x, at-1)
		checkQualified(t, x, at, said(sender(1), 7))
		checkQualified(t, x, at+window-1, said(sender(1), 7))
		checkQualified(t, x, at+window)
	}
}

// TestQualifiedAtTheEdgesOfEvery has both times at both edges of the window.
func TestQualifiedAtTheEdgesOfEvery(t *testing.T) {
	for _, n := range []int{1, 2, every, 1 << 20, maxEvery} {
		wide := api.Window * n
		for _, now := range []int{wide - 1, wide, wide + 1, 2 * wide, 1 << 50, api.Most - 1, api.Most} {
			for _, c := range []struct {
				a, b int
				is   bool
			}{
				{now, now, true},
				{now - 1, now, true},
				{now - wide + 1, now, true},
				{now - wide + 1, now - wide + 1, true},
				{now - wide, now, false},
				{now - wide, now - wide, false},
				{now - wide - 1, now, false},
				{now, now + 1, false},
				{now + 1, now + 1, false},
			} {
				if c.a < 0 || c.b > api.Most {
					continue
				}
				x := table(t, n)
				hear(t, x, from(1), c.a, 2)
				hear(t, x, from(1), c.b, 1)
				if l := x.Qualified(now); (len(l) == 1) != c.is || c.is && l[0] != from(1) {
					t.Errorf("P8.3: every %d, heard at %d and %d, Qualified(%d): %v", n, c.a, c.b, now, l)
				}
			}
		}
	}
}

// TestQualifiedAheadOfTheLastTime: a time that is later than now is the last one nevertheless.
func TestQualifiedAheadOfTheLastTime(t *testing.T) {
	x := table(t, every)
	hear(t, x, from(1), 10, 2)
	hear(t, x, from(1), 11, 1)
	checkQualified(t, x, 20, from(1))
	hear(t, x, from(1), 30, 1)
	checkQualified(t, x, 20)
	checkQualified(t, x, 29)
	checkQualified(t, x, 30, from(1))
}

// TestQualifiedAtAnyTime: a window that begins ahead of 0 has all times from 0 on in it; far off there is nobody.
func TestQualifiedAtAnyTime(t *testing.T) {
	for _, n := range []int{1, every, maxEvery} {
		x := table(t, n)
		hear(t, x, from(1), 0, 2)
		checkQualified(t, x, 0)
		hear(t, x, from(1), 0, 1)
		hear(t, x, from(2), api.Most, 2)
		hear(t, x, from(2), api.Most, 1)
		checkQualified(t, x, 0, from(1))
		checkQualified(t, x, api.Window*n-1, from(1))
		checkQualified(t, x, api.Most-1)
		checkQualified(t, x, api.Most, from(2))
		checkQualified(t, x, api.Most+api.Window*n-1, from(2))
		for _, now := range []int{math.MinInt, math.MinInt + 1, math.MinInt + api.Window*n, -api.Most - 1, -api.Most, -api.Window * n, -1, api.Window * n, api.Most + api.Window*n, math.MaxInt - 1, math.MaxInt} {
			checkQualified(t, x, now)
		}
	}
}

func TestQualifiedRise(t *testing.T) {
	c := api.Clock{4}
	rising := []api.Port{
		{Clock: api.Clock{}, Number: 65535},
		{Clock: api.Clock{3: 0xff}, Number: 7},
		{Clock: c, Number: -3},
		{Clock: c, Number: 2},
		{Clock: c, Number: 10},
	}
	var want []api.Set
	for i, p := range rising {
		want = append(want, said(p, 10-i))
	}
	orders(len(rising), func(order []int) {
		x := table(t, every)
		for _, n := range order {
			hear(t, x, said(rising[n], 99), 7, 2)
		}
		for at, n := range order {
			hear(t, x, want[n], 8+at, 1)
			checkQualified(t, x, 7)
		}
		checkQualified(t, x, 8+len(order), want...)
	})
}

// TestQualifiedOfSome: those that were heard once, or long ago, or will be heard, are left out.
func TestQualifiedOfSome(t *testing.T) {
	x := table(t, every)
	for n, times := range [][]int{{100, 120}, {120}, {80, 81}, {121, 131}, {60, 120, 120}} {
		for i, at := range times {
			hear(t, x, from(n), at, 2-min(i, 1))
		}
	}
	checkQualified(t, x, 119, from(2))
	checkQualified(t, x, 120, from(0), from(4))
	checkQualified(t, x, 131, from(0), from(3), from(4))
	checkQualified(t, x, 140, from(3), from(4))
	checkQualified(t, x, 160, from(3))
	checkQualified(t, x, 161)
}

func TestQualifiedAsksAndChangesNothing(t *testing.T) {
	x := some(t)
	before := tell(x)
	for _, now := range []int{math.MinInt, -1, 0, 70, 1000, api.Most, math.MaxInt} {
		first := x.Qualified(now)
		if !slices.Equal(first, x.Qualified(now)) {
			t.Errorf("R7: Qualified(%d) tells otherwise when it is asked again", now)
		}
	}
	if !tell(x).same(before) {
		t.Error("P8.3: Qualified changed the table")
	}
}
