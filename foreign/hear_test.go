package foreign_test

import (
	"math"
	"slices"
	"testing"

	"horologe/api"
	"horologe/foreign"
)

// state is all that a table tells, at times about those that these tests have.
type state struct {
	senders   []api.Port
	sets      []api.Set
	times     []int
	qualified [][]api.Set
}

func tell(x *foreign.Table) state {
	s := state{senders: x.Senders()}
	for _, p := range s.senders {
		set, at, _ := x.Last(p)
		s.sets = append(s.sets, set)
		s.times = append(s.times, at)
	}
	for now := range 4 * window {
		s.qualified = append(s.qualified, x.Qualified(now))
	}
	return s
}

func (s state) same(o state) bool {
	return slices.Equal(s.senders, o.senders) && slices.Equal(s.sets, o.sets) && slices.Equal(s.times, o.times) &&
		slices.EqualFunc(s.qualified, o.qualified, slices.Equal)
}

// checkNothingDone hears what is not taken in, and looks whether the table tells as before.
func checkNothingDone(t *testing.T, x *foreign.Table, s api.Set, now, want int) {
	t.Helper()
	before := tell(x)
	hear(t, x, s, now, want)
	if after := tell(x); !after.same(before) {
		t.Errorf("P8.2: Hear(%v, %d) is %d, and did something: %v, then %v", s, now, want, before, after)
	}
}

// some has two that were heard often, and one that was heard once.
func some(t *testing.T) *foreign.Table {
	t.Helper()
	x := table(t, every)
	hear(t, x, from(1), 50, 2)
	hear(t, x, from(1), 60, 1)
	hear(t, x, from(2), 55, 2)
	hear(t, x, from(2), 65, 1)
	hear(t, x, from(3), 70, 2)
	return x
}

func TestHearByHand(t *testing.T) {
	x := table(t, every)
	hear(t, x, from(1), 0, 2)
	checkQualified(t, x, 5)
	hear(t, x, from(1), 10, 1)
	checkQualified(t, x, 15, from(1))
	checkQualified(t, x, 41)
	hear(t, x, withSteps(from(2), 255), 12, 0)
	checkSenders(t, x, 1)
}

func TestHearAtTheEdgesOfTime(t *testing.T) {
	for _, n := range []int{1, every, maxEvery} {
		for _, now := range []int{0, 1, api.Most - 1, api.Most} {
			x := table(t, n)
			hear(t, x, from(1), now, 2)
			checkLast(t, x, from(1), now)
			hear(t, x, said(sender(1), 7), now, 1)
			checkLast(t, x, said(sender(1), 7), now)
		}
	}
}

func TestHearAtWrongTimes(t *testing.T) {
	for _, now := range []int{math.MinInt, math.MinInt + 1, -api.Most, -1 << 42, -window, -1, api.Most + 1, api.Most + window, math.MaxInt - 1, math.MaxInt} {
		x := table(t, every)
		checkNothingDone(t, x, from(1), now, 0)
		checkNothingDone(t, some(t), from(1), now, 0)
		checkNothingDone(t, some(t), from(4), now, 0)
		x = fullTable(t, 0, 0, 0, 0, 0)
		checkNothingDone(t, x, from(9), now, 0)
	}
}

func TestHearOfOwn(t *testing.T) {
	for _, n := range []int{math.MinInt, -1, 0, 1, 2, 65535, 65536, math.MaxInt} {
		checkNothingDone(t, some(t), said(api.Port{Clock: own(), Number: n}, 4), 80, 0)
	}
	for i := range len(own()) {
		c := own()
		c[i]++
		hear(t, some(t), said(api.Port{Clock: c, Number: 1}, 4), 80, 2)
	}
	hear(t, some(t), said(api.Port{}, 4), 80, 2)
	zero, _ := foreign.New(api.Clock{}, every)
	checkNothingDone(t, zero, said(api.Port{Number: 1}, 4), 80, 0)
	hear(t, zero, said(api.Port{Clock: own(), Number: 1}, 4), 80, 2)
}

// TestHearOfOwnElsewhere: a clock may be told of itself as a grandmaster; who sends it is what counts.
func TestHearOfOwnElsewhere(t *testing.T) {
	s := from(4)
	s.Grand = own()
	s.Receiver = api.Port{Clock: own(), Number: 1}
	x := some(t)
	hear(t, x, s, 80, 2)
	checkLast(t, x, s, 80)
}

func TestHearOfSteps(t *testing.T) {
	for _, n := range []int{0, 1, 2, 127, 128, api.MaxSteps - 2, api.MaxSteps - 1} {
		x := some(t)
		hear(t, x, withSteps(from(4), n), 80, 2)
		checkLast(t, x, withSteps(from(4), n), 80)
		hear(t, x, withSteps(from(1), n), 80, 1)
		checkLast(t, x, withSteps(from(1), n), 80)
	}
	for _, n := range []int{math.MinInt, -1 << 32, -256, -255, -1, api.MaxSteps, api.MaxSteps + 1, 256, 65535, 1 << 32, math.MaxInt} {
		checkNothingDone(t, some(t), withSteps(from(4), n), 80, 0)
		checkNothingDone(t, some(t), withSteps(from(1), n), 80, 0)
	}
}

// TestHearTakesTheRestAsItIs: numbers that no message can hold are kept, too.
func TestHearTakesTheRestAsItIs(t *testing.T) {
	for _, n := range []int{math.MinInt, -1, 0, 255, 256, 65536, math.MaxInt} {
		s := api.Set{Priority1: n, Priority2: n, Quality: api.Quality{Class: n, Accuracy: n, Variance: n}, Sender: api.Port{Number: n}, Receiver: api.Port{Number: n}}
		x := table(t, every)
		hear(t, x, s, 80, 2)
		checkLast(t, x, s, 80)
		hear(t, x, s, 81, 1)
		checkQualified(t, x, 81, s)
	}
}

func TestHearAheadOfTheSendersTime(t *testing.T) {
	for _, now := range []int{0, 1, 49, 50, 58, 59} {
		checkNothingDone(t, some(t), said(sender(1), 7), now, 0)
	}
	x := some(t)
	hear(t, x, said(sender(1), 7), 60, 1)
	checkLast(t, x, said(sender(1), 7), 60)
	hear(t, x, said(sender(1), 8), 61, 1)
	checkLast(t, x, said(sender(1), 8), 61)
	checkNothingDone(t, x, said(sender(1), 9), 60, 0)
	x = table(t, every)
	hear(t, x, from(1), api.Most, 2)
	checkNothingDone(t, x, said(sender(1), 7), api.Most-1, 0)
	checkNothingDone(t, x, said(sender(1), 7), 0, 0)
}

// TestHearAheadOfOthersTimes: each sender has times of its own, another port of one clock among them.
func TestHearAheadOfOthersTimes(t *testing.T) {
	x := some(t)
	hear(t, x, from(4), 0, 2)
	hear(t, x, said(sender(3), 7), 70, 1)
	hear(t, x, said(sender(1), 7), 61, 1)
	other := said(api.Port{Clock: sender(1).Clock, Number: 2}, 8)
	hear(t, x, other, 1, 2)
	checkLast(t, x, other, 1)
	checkLast(t, x, said(sender(1), 7), 61)
	checkLast(t, x, from(4), 0)
}

// TestHearByAnotherReceiver: who hears it makes no other sender.
func TestHearByAnotherReceiver(t *testing.T) {
	x := table(t, every)
	s := from(1)
	hear(t, x, s, 5, 2)
	s.Receiver = api.Port{Clock: api.Clock{7}, Number: 8}
	hear(t, x, s, 6, 1)
	checkSenders(t, x, 1)
	checkLast(t, x, s, 6)
}

// fullTable has one sender, 1 and so on, for each time.
func fullTable(t *testing.T, times ...int) *foreign.Table {
	t.Helper()
	if len(times) != api.MaxForeign {
		t.Fatal("not full:", times)
	}
	x := table(t, every)
	for i, at := range times {
		checkNoLast(t, x, sender(i+1))
		hear(t, x, from(i+1), at, 2)
		if x.Len() != i+1 {
			t.Errorf("P8.1: Len: %d", x.Len())
		}
	}
	return x
}

func TestHearWhereItIsFull(t *testing.T) {
	x := fullTable(t, 50, 51, 52, 53, 54)
	checkNothingDone(t, x, from(6), 54, 4)
	checkNothingDone(t, x, from(0), 50+window, 4)
	checkNothingDone(t, x, from(0), 0, 4)
	hear(t, x, said(sender(3), 7), 60, 1)
	checkLast(t, x, said(sender(3), 7), 60)
	checkSenders(t, x, 1, 2, 3, 4, 5)
	x.Drop(sender(2))
	hear(t, x, from(6), 60, 2)
	checkNothingDone(t, x, from(2), 60, 4)
	checkSenders(t, x, 1, 3, 4, 5, 6)
}

// TestHearOneTooFew: there is room, so that nobody gives way, though all are over.
func TestHearOneTooFew(t *testing.T) {
	x := fullTable(t, 0, 0, 0, 0, 0)
	x.Drop(sender(5))
	hear(t, x, from(6), 1000, 2)
	checkSenders(t, x, 1, 2, 3, 4, 6)
}

// TestWhoIsOver: one that was heard at just the window's start is not over.
func TestWhoIsOver(t *testing.T) {
	for _, n := range []int{1, every, 1 << 20, maxEvery} {
		for _, first := range []int{0, 1, api.Window * n, api.Most - 2*api.Window*n} {
			last := first + api.Window*n
			for _, c := range []struct{ now, want int }{{last - 1, 4}, {last, 4}, {last + 1, 3}, {last + 2, 3}} {
				x := table(t, n)
				for i := range api.MaxForeign {
					hear(t, x, from(i), first, 2)
				}
				for i := 1; i < api.MaxForeign; i++ {
					hear(t, x, from(i), last, 1)
				}
				hear(t, x, from(9), c.now, c.want)
				if c.want == 3 {
					checkSenders(t, x, 1, 2, 3, 4, 9)
					checkLast(t, x, from(9), c.now)
					checkNoLast(t, x, sender(0))
				} else {
					checkSenders(t, x, 0, 1, 2, 3, 4)
				}
			}
		}
	}
}

// TestOverByTheLastTime: an entry that was heard again is as old as that.
func TestOverByTheLastTime(t *testing.T) {
	x := fullTable(t, 0, 1, 2, 3, 4)
	hear(t, x, said(sender(1), 7), 30, 1)
	hear(t, x, from(6), 2+window, 3)
	checkSenders(t, x, 1, 3, 4, 5, 6)
	checkLast(t, x, said(sender(1), 7), 30)
}

// TestOverAndHeardAgain: an entry that is over is its sender's still, and none gives way for it.
func TestOverAndHeardAgain(t *testing.T) {
	x := fullTable(t, 0, 1, 2, 3, 4)
	hear(t, x, said(sender(3), 7), 1000, 1)
	checkSenders(t, x, 1, 2, 3, 4, 5)
	checkLast(t, x, said(sender(3), 7), 1000)
	checkLast(t, x, from(1), 0)
}

// TestWhoIsOverLongest has all orders in which five times can be dealt out.
func TestWhoIsOverLongest(t *testing.T) {
	orders(api.MaxForeign, func(times []int) {
		x := fullTable(t, times...)
		left := []int{1, 2, 3, 4, 5}
		for at := range api.MaxForeign {
			gone := slices.Index(times, at) + 1
			left = append(slices.DeleteFunc(left, func(n int) bool { return n == gone }), at+10)
			hear(t, x, from(at+10), 1000, 3)
			checkSenders(t, x, left...)
			checkNoLast(t, x, sender(gone))
			checkLast(t, x, from(at+10), 1000)
		}
		checkNothingDone(t, x, from(1), 1000, 4)
	})
}

// TestOverAtOneTime: of those that are over, by clock and by number, the least sender gives way, in whichever order they were heard.
func TestOverAtOneTime(t *testing.T) {
	rising := []api.Port{
		{Clock: api.Clock{1}, Number: 300},
		{Clock: api.Clock{1, 0, 0, 0, 0, 0, 0, 1}, Number: 1},
		{Clock: api.Clock{2}, Number: -1},
		{Clock: api.Clock{2}, Number: 255},
		{Clock: api.Clock{2}, Number: 256},
	}
	orders(len(rising), func(order []int) {
		x := table(t, every)
		for _, n := range order {
			hear(t, x, said(rising[n], n), 3, 2)
		}
		for i, p := range rising {
			hear(t, x, from(i), 1000, 3)
			checkNoLast(t, x, p)
			for _, o := range rising[i+1:] {
				checkLast(t, x, said(o, slices.Index(rising, o)), 3)
			}
		}
	})
}

// TestOnlyThoseOverGiveWay: the least sender stays, if it is not over, or was heard later.
func TestOnlyThoseOverGiveWay(t *testing.T) {
	x := fullTable(t, 30, 20, 10, 10, 20)
	hear(t, x, from(6), 20+window, 3)
	checkSenders(t, x, 1, 2, 4, 5, 6)
	hear(t, x, from(7), 20+window, 3)
	checkSenders(t, x, 1, 2, 5, 6, 7)
	checkNothingDone(t, x, from(8), 20+window, 4)
	hear(t, x, from(8), 21+window, 3)
	checkSenders(t, x, 1, 5, 6, 7, 8)
	hear(t, x, from(9), 30+window, 3)
	checkSenders(t, x, 1, 6, 7, 8, 9)
	hear(t, x, from(0), 31+window, 3)
	checkSenders(t, x, 0, 6, 7, 8, 9)
}

// TestIgnoredThoughOneIsOver: nobody gives way to what is not heard.
func TestIgnoredThoughOneIsOver(t *testing.T) {
	x := fullTable(t, 0, 0, 0, 0, 0)
	checkNothingDone(t, x, withSteps(from(6), api.MaxSteps), 1000, 0)
	checkNothingDone(t, x, withSteps(from(6), -1), 1000, 0)
	checkNothingDone(t, x, said(api.Port{Clock: own(), Number: 6}, 6), 1000, 0)
	checkNothingDone(t, x, from(6), api.Most+1, 0)
	checkNothingDone(t, x, from(6), -1, 0)
}

// TestHeardAnewBehindInstead: who gave way comes back as one that is new, at an earlier time, too.
func TestHeardAnewBehindInstead(t *testing.T) {
	x := fullTable(t, 5, 90, 90, 90, 90)
	hear(t, x, said(sender(1), 7), 6, 1)
	hear(t, x, from(6), 100, 3)
	x.Drop(sender(2))
	hear(t, x, said(sender(1), 8), 4, 2)
	checkLast(t, x, said(sender(1), 8), 4)
	checkQualified(t, x, 6)
	hear(t, x, from(6), 101, 1)
	checkQualified(t, x, 101, from(6))
}
