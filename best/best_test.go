package best_test

import (
	"iter"
	"math"
	"slices"
	"testing"

	"horologe/api"
	"horologe/best"
	"horologe/rank"
)

// heard is a set with nothing that is at an edge: of two that were heard from unlike grandmasters that of the lesser one is better.
func heard(grand byte) api.Set {
	return api.Set{
		Priority1: 128,
		Priority2: 127,
		Quality:   api.Quality{Class: 248, Accuracy: 33, Variance: 0x4e5d},
		Grand:     api.Clock{1, 2, 3, 4, 5, 6, 7, grand},
		Steps:     3,
		Sender:    api.Port{Clock: api.Clock{7, 7, 7, 7, 7, 7, 7, 7}, Number: 2},
		Receiver:  receiver(),
	}
}

func receiver() api.Port {
	return api.Port{Clock: api.Clock{9, 9, 9, 9, 9, 9, 9, 9}, Number: 4}
}

func changed(s api.Set, changes ...func(s *api.Set)) api.Set {
	for _, f := range changes {
		f(&s)
	}
	return s
}

func by(p api.Port) func(s *api.Set) { return func(s *api.Set) { s.Receiver = p } }

func byNumber(n int) func(s *api.Set) { return func(s *api.Set) { s.Receiver.Number = n } }

func steps(n int) func(s *api.Set) { return func(s *api.Set) { s.Steps = n } }

func is(s api.Set) best.Choice { return best.Choice{Set: s, Is: true} }

// none has a set that is better than all others here, and is nothing.
func none() best.Choice {
	return best.Choice{Set: api.Set{Priority1: math.MinInt, Quality: api.Quality{Class: math.MinInt}}}
}

// numbers are all that a set has, but for its clocks; they are in the order in which Grand asks them, the way behind.
func numbers() []func(s *api.Set, n int) {
	return []func(s *api.Set, n int){
		func(s *api.Set, n int) { s.Priority1 = n },
		func(s *api.Set, n int) { s.Quality.Class = n },
		func(s *api.Set, n int) { s.Quality.Accuracy = n },
		func(s *api.Set, n int) { s.Quality.Variance = n },
		func(s *api.Set, n int) { s.Priority2 = n },
		func(s *api.Set, n int) { s.Steps = n },
		func(s *api.Set, n int) { s.Sender.Number = n },
		func(s *api.Set, n int) { s.Receiver.Number = n },
	}
}

const ofGrand = 5 // so many of the numbers are a grandmaster's

// rising has wrong numbers, too, and the least and the greatest ones that there are.
func rising() []int {
	return []int{math.MinInt, math.MinInt + 1, -65536, -1, 0, 1, 2, 255, 65536, math.MaxInt - 1, math.MaxInt}
}

type edgePair struct {
	better, worse api.Set
	byWay         bool
}

// edgePairs are unlike in one number, at each two edges; where a grandmaster's is unlike, its clock says otherwise.
func edgePairs() iter.Seq[edgePair] {
	return func(yield func(edgePair) bool) {
		for k, set := range numbers() {
			for i, low := range rising() {
				for _, high := range rising()[i+1:] {
					x := edgePair{better: heard(1), worse: heard(1)}
					if k < ofGrand {
						x.better = heard(2)
					}
					set(&x.better, low)
					set(&x.worse, high)
					// Steps, which come next, tell it by the way just where they differ by one.
					x.byWay = k > ofGrand || k == ofGrand && high == low+1
					if !yield(x) {
						return
					}
				}
			}
		}
	}
}

// round are sets each of which is better than the next one, and the last one than the first: one Grand is told of with unlike numbers.
func round() []api.Set {
	return []api.Set{
		changed(heard(5), steps(9), func(s *api.Set) { s.Priority1 = 1 }),
		changed(heard(6), func(s *api.Set) { s.Priority1 = 2 }),
		changed(heard(5), steps(1), func(s *api.Set) { s.Priority1 = 3 }),
	}
}

// allOrders are all the orders of a list.
func allOrders[T any](l []T) [][]T {
	if len(l) == 0 {
		return [][]T{nil}
	}
	var out [][]T
	for _, o := range allOrders(l[1:]) {
		for i := range len(l) {
			out = append(out, slices.Insert(slices.Clone(o), i, l[0]))
		}
	}
	return out
}

// mixedSets are made by a rule, alike at every run; their clocks and numbers are few, so that many are alike in much.
func mixedSets(count int) []api.Set {
	x := uint64(2463534242)
	take := func(n uint64) int {
		x = x*6364136223846793005 + 1442695040888963407
		return int(x >> 33 % n)
	}
	clock := func() api.Clock { return api.Clock{byte(take(3)), 7: 1} }
	var l []api.Set
	for range count {
		s := heard(1)
		s.Grand, s.Sender.Clock, s.Receiver.Clock = clock(), clock(), clock()
		for _, set := range numbers() {
			set(&s, 3+take(2))
			if take(12) == 0 {
				set(&s, rising()[take(11)])
			}
		}
		l = append(l, s)
	}
	return l
}

// meantNumber is the number of the first choice than which no other one is Less; none is left out.
func meantNumber(l []best.Choice) int {
	return slices.IndexFunc(l, func(a best.Choice) bool {
		return a.Is && !slices.ContainsFunc(l, func(b best.Choice) bool { return b.Is && rank.Less(b.Set, a.Set) })
	})
}

func checkPort(t *testing.T, what string, l []api.Set, p api.Port, want best.Choice) {
	t.Helper()
	if c := best.Port(l, p); c != want {
		t.Errorf("P9.1: %s: Port(%+v, %+v): %+v, not %+v", what, l, p, c, want)
	}
}

func checkAll(t *testing.T, what string, want int, l ...best.Choice) {
	t.Helper()
	if n := best.All(l); n != want {
		t.Errorf("P9.1: %s: All(%+v): %d, not %d", what, l, n, want)
	}
}

func checkBetter(t *testing.T, what string, a, b best.Choice, want bool) {
	t.Helper()
	if got := best.Better(a, b); got != want {
		t.Errorf("P9.1: %s: Better(%+v, %+v): %v", what, a, b, got)
	}
}

func checkByWay(t *testing.T, what string, a, b best.Choice, want bool) {
	t.Helper()
	if got := best.ByWay(a, b); got != want {
		t.Errorf("P9.1: %s: ByWay(%+v, %+v): %v", what, a, b, got)
	}
}

func TestTheChaptersExamples(t *testing.T) {
	checkAll(t, "an example", 1, best.Choice{}, is(heard(1)), best.Choice{})
	checkBetter(t, "an example", best.Choice{}, is(heard(1)), false)
	checkBetter(t, "an example", is(heard(1)), best.Choice{}, true)
}
