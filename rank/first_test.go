package rank_test

import (
	"math"
	"slices"
	"testing"

	"horologe/api"
	"horologe/rank"
)

// meantFirst is what First is to tell, by meantCompare.
func meantFirst(l []api.Set) int {
	return slices.IndexFunc(l, func(a api.Set) bool {
		return !slices.ContainsFunc(l, func(b api.Set) bool { return meantCompare(b, a) < 3 })
	})
}

func checkFirst(t *testing.T, what string, want int, l ...api.Set) {
	t.Helper()
	if n := rank.First(l); n != want {
		t.Errorf("P7.3: %s: First of %d sets: %d, not %d", what, len(l), n, want)
	}
}

// orders are all the orders of a list.
func orders(l []api.Set) [][]api.Set {
	if len(l) == 0 {
		return [][]api.Set{nil}
	}
	var all [][]api.Set
	for i, s := range l {
		for _, rest := range orders(slices.Concat(l[:i], l[i+1:])) {
			all = append(all, append(rest, s))
		}
	}
	return all
}

func steps(n int) api.Set { return with(func(s *api.Set) { s.Steps = n }) }

func TestFirstOfNothing(t *testing.T) {
	checkFirst(t, "none", -1)
	if n := rank.First(nil); n != -1 {
		t.Errorf("P7.3: First(nil): %d", n)
	}
	if n := rank.First([]api.Set{}); n != -1 {
		t.Errorf("P7.3: First of an empty list: %d", n)
	}
	// There are some in the room behind it, which do not count.
	if n := rank.First([]api.Set{plain(), plain()}[:0]); n != -1 {
		t.Errorf("P7.3: First of an empty list: %d", n)
	}
}

func TestFirstOfOne(t *testing.T) {
	checkFirst(t, "one", 0, plain())
	checkFirst(t, "one", 0, api.Set{})
	for _, s := range mixedSets(500) {
		checkFirst(t, "one", 0, s)
	}
}

// TestFirstWhereNoneIsBetter has sets that are the same, and such as were heard from the one that hears.
func TestFirstWhereNoneIsBetter(t *testing.T) {
	checkFirst(t, "the same", 0, plain(), plain())
	checkFirst(t, "the same", 0, plain(), plain(), plain(), plain(), plain())
	elsewhere := with(func(s *api.Set) { s.Receiver.Clock = api.Clock{} })
	checkFirst(t, "the same but for the Receiver's Clock", 0, plain(), elsewhere)
	checkFirst(t, "the same but for the Receiver's Clock", 0, elsewhere, plain())
	self := with(func(s *api.Set) { s.Steps, s.Receiver.Clock = 4, s.Sender.Clock })
	checkFirst(t, "heard of itself", 0, plain(), self)
	checkFirst(t, "heard of itself", 0, self, plain())
}

// TestFirstIsTheFirstOfThem has some that are worse ahead of those of which none is better.
func TestFirstIsTheFirstOfThem(t *testing.T) {
	checkFirst(t, "a worse one ahead", 1, steps(9), plain(), plain())
	checkFirst(t, "worse ones between", 0, plain(), steps(9), plain())
	checkFirst(t, "worse ones ahead and between", 2, steps(9), steps(8), plain(), steps(9), plain(), plain())
	self := with(func(s *api.Set) { s.Steps, s.Receiver.Clock = 4, s.Sender.Clock })
	checkFirst(t, "heard of itself", 1, steps(9), self, plain())
	checkFirst(t, "heard of itself", 1, steps(9), plain(), self)
	// It is as good as the one in the midst, but worse than the last one.
	checkFirst(t, "better than one of those alone", 2, self, plain(), steps(1))
}

func TestFirstOfOneGrand(t *testing.T) {
	sender := with(func(s *api.Set) { s.Sender.Number = 1 })
	receiver := with(func(s *api.Set) { s.Receiver.Number = 1 })
	for _, l := range [][]api.Set{
		{steps(0), steps(2), steps(4), steps(6)},
		{steps(0), steps(1), steps(2), steps(3), steps(4)},
		{steps(-5), steps(0), steps(5)},
		{steps(math.MinInt), steps(math.MinInt + 1), steps(-1), steps(math.MaxInt - 1), steps(math.MaxInt)},
		{steps(math.MaxInt - 1), steps(math.MaxInt)},
		{sender, receiver, plain()},
	} {
		for _, o := range orders(l) {
			checkFirst(t, "one Grand", slices.Index(o, l[0]), o...)
		}
	}
}

// TestFirstOfUnlikeGrands has the best one say little for itself: it is last by its clock and by its way.
func TestFirstOfUnlikeGrands(t *testing.T) {
	for _, p := range graded() {
		for _, least := range []int{math.MinInt, -1, 0, 1} {
			var l []api.Set
			for i, n := range []int{least, least + 1, 5, math.MaxInt} {
				s := plain()
				p.set(&s, n)
				s.Grand = api.Clock{byte(9 - i)}
				s.Steps = 900 - 100*i
				l = append(l, s)
			}
			for _, o := range orders(l) {
				checkFirst(t, p.name, slices.Index(o, l[0]), o...)
			}
		}
	}
	var l []api.Set
	for i := range 5 {
		l = append(l, with(func(s *api.Set) { s.Grand, s.Steps = api.Clock{1, 7: byte(i)}, 9-2*i }))
	}
	for _, o := range orders(l) {
		checkFirst(t, "Grand", slices.Index(o, l[0]), o...)
	}
}

// round are sets each of which is better than the next one, and the last one than the first: one Grand is told of with unlike numbers.
func round() []api.Set {
	return []api.Set{
		with(func(s *api.Set) { s.Priority1, s.Steps = 1, 9 }),
		with(func(s *api.Set) { s.Priority1, s.Grand = 2, api.Clock{6} }),
		with(func(s *api.Set) { s.Priority1, s.Steps = 3, 1 }),
	}
}

func TestFirstWhereEachHasABetterOne(t *testing.T) {
	for i, a := range round() {
		if b := round()[(i+1)%3]; !rank.Less(a, b) || rank.Less(b, a) {
			t.Errorf("P7.3: %d of three that go round is not Less than the next one", i)
		}
	}
	for _, o := range orders(round()) {
		checkFirst(t, "three that go round", -1, o...)
	}
	best := with(func(s *api.Set) { s.Priority1, s.Grand = 0, api.Clock{6} })
	for _, o := range orders(append(round(), best)) {
		checkFirst(t, "three that go round, and one that is better", slices.Index(o, best), o...)
	}
	worst := with(func(s *api.Set) { s.Priority1, s.Grand = 4, api.Clock{6} })
	for _, o := range orders(append(round(), worst)) {
		checkFirst(t, "three that go round, and one that is worse", -1, o...)
	}
}

func TestFirstOfMixedSets(t *testing.T) {
	none, behind := 0, 0
	for size := 1; size <= 8; size++ {
		for l := range slices.Chunk(mixedSets(500*size), size) {
			want := meantFirst(l)
			checkFirst(t, "mixed", want, l...)
			if want < 0 {
				none++
			}
			if want > 0 {
				behind++
			}
		}
	}
	if none < 50 || behind < 1000 {
		t.Errorf("of the lists %d had none, and %d one behind the first", none, behind)
	}
}

func TestFirstOfMany(t *testing.T) {
	l := make([]api.Set, 1000)
	for i := range l {
		l[i] = steps(2 * (len(l) - i))
	}
	checkFirst(t, "falling Steps", len(l)-1, l...)
	slices.Reverse(l)
	checkFirst(t, "rising Steps", 0, l...)
}

func TestFirstChangesNothing(t *testing.T) {
	l := append(round(), mixedSets(5)...)
	whole := slices.Clone(l)
	rank.First(l[:7])
	if !slices.Equal(l, whole) {
		t.Errorf("R5: First changed its list: %+v", l)
	}
}
