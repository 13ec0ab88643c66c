package rank_test

import (
	"slices"
	"testing"

	"horologe/api"
	"horologe/rank"
)

// edgeSets have each number at each edge, beside sets that are alike but for one part.
func edgeSets() []api.Set {
	l := []api.Set{{}, plain()}
	ways := []part{
		{"Steps", func(s *api.Set, n int) { s.Steps = n }},
		{"Sender", func(s *api.Set, n int) { s.Sender.Number = n }},
		{"Receiver", func(s *api.Set, n int) { s.Receiver.Number = n }},
	}
	for _, p := range append(graded(), ways...) {
		for _, n := range edges() {
			s := plain()
			p.set(&s, n)
			l = append(l, s)
			s.Grand[7]++
			s.Receiver.Clock = s.Sender.Clock
			l = append(l, s)
		}
	}
	return l
}

func TestCompareTurned(t *testing.T) {
	l := append(edgeSets(), mixedSets(300)...)
	for _, a := range l {
		for _, b := range l {
			n, back := rank.Compare(a, b), rank.Compare(b, a)
			if n < 1 || n > 6 || back != turned(n) || back != rank.Turn(n) {
				t.Errorf("P7.4: Compare of %+v and %+v: %d, and turned %d", a, b, n, back)
			}
			if rank.Less(a, b) && rank.Less(b, a) {
				t.Errorf("P7.4: %+v and %+v are each Less than the other", a, b)
			}
		}
	}
}

func TestCompareWithItself(t *testing.T) {
	for _, a := range append(edgeSets(), mixedSets(2000)...) {
		if n := rank.Compare(a, a); n != 6 {
			t.Errorf("P7.4: Compare of %+v and itself: %d", a, n)
		}
		if rank.Less(a, a) {
			t.Errorf("P7.4: %+v is Less than itself", a)
		}
		if n := rank.Grand(a, a); n != 0 {
			t.Errorf("P7.1: Grand of %+v and itself: %d", a, n)
		}
	}
}

func TestTurnTwice(t *testing.T) {
	for _, n := range append(edges(), 3, 4, 5, 6, 7, -3, -4) {
		if got := rank.Turn(rank.Turn(n)); got != n {
			t.Errorf("P7.4: Turn(Turn(%d)): %d", n, got)
		}
	}
}

// unlike gives each set a Grand of its own, and one Receiver to all; where the Grands stand in order is mixed.
func unlike(l []api.Set, by uint64) []api.Set {
	out := slices.Clone(l)
	for i := range out {
		out[i].Grand = api.Clock{byte(by>>(3*i)) & 7, 7: byte(i)}
		out[i].Receiver = api.Port{Clock: api.Clock{4}, Number: 1}
	}
	return out
}

// TestFirstOfUnlikeGrandsIsTheLeast has them all alike but for the Grand, too, and in all their orders where there are few.
func TestFirstOfUnlikeGrandsIsTheLeast(t *testing.T) {
	check := func(l []api.Set) {
		least := slices.MinFunc(l, meantGrand)
		if n := rank.First(l); n < 0 || n >= len(l) || l[n] != least {
			t.Errorf("P7.4: First of %+v: %d", l, n)
		}
	}
	for size := 1; size <= 8; size++ {
		by := mixed(300)
		for l := range slices.Chunk(mixedSets(300*size), size) {
			x := by[0]
			by = by[1:]
			check(unlike(l, x))
			check(unlike(slices.Repeat([]api.Set{plain()}, size), x))
		}
	}
	for _, x := range mixed(20) {
		for _, o := range orders(unlike(mixedSets(5), x)) {
			check(o)
		}
	}
}

func TestTheSameIsToldAgain(t *testing.T) {
	l := mixedSets(60)
	for _, a := range l {
		for _, b := range l {
			if rank.Compare(a, b) != rank.Compare(a, b) || rank.Grand(a, b) != rank.Grand(a, b) || rank.First([]api.Set{a, b}) != rank.First([]api.Set{a, b}) {
				t.Errorf("R7: %+v and %+v are told otherwise the second time", a, b)
			}
		}
	}
}
