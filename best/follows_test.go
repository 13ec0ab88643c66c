package best_test

import (
	"slices"
	"testing"

	"horologe/api"
	"horologe/best"
	"horologe/rank"
)

// unlike gives each set a Grand of its own; where these stand in order goes by the set's place and by turn.
func unlike(l []api.Set, turn int) []api.Set {
	out := slices.Clone(l)
	for i := range out {
		out[i].Grand = api.Clock{byte((5*i + turn) % 7), 7: byte(i)}
	}
	return out
}

// plain are sets that are alike in all.
func plain(count int) []api.Set { return slices.Repeat([]api.Set{heard(1)}, count) }

func TestAllIsTheLeastOfUnlikeGrands(t *testing.T) {
	check := func(sets []api.Set, turn int) {
		least := slices.MinFunc(sets, rank.Grand)
		var l []best.Choice
		for i, s := range sets {
			if (i+turn)%2 == 0 {
				l = append(l, none())
			}
			l = append(l, is(s))
		}
		if n := best.All(l); n < 0 || n >= len(l) || l[n] != is(least) {
			t.Errorf("P9.2: All(%+v): %d", l, n)
		}
	}
	turn := 0
	for size := 1; size <= 8; size++ {
		for l := range slices.Chunk(mixedSets(150*size), size) {
			check(unlike(l, turn), turn)
			check(unlike(plain(size), turn), turn)
			turn++
		}
	}
}

// TestNoOrderOfWhatWasHeardIsSeen: one port hears up to five, in all their orders.
func TestNoOrderOfWhatWasHeardIsSeen(t *testing.T) {
	for turn := range 12 {
		for size := 2; size <= 5; size++ {
			for _, sets := range [][]api.Set{unlike(plain(size), turn), unlike(mixedSets(size + turn)[turn:], turn)} {
				want := is(changed(slices.MinFunc(sets, rank.Grand), by(receiver())))
				for _, o := range allOrders(sets) {
					if c := best.Port(o, receiver()); c != want {
						t.Errorf("P9.2: Port(%+v): %+v, not %+v", o, c, want)
					}
				}
			}
		}
	}
}

// TestNoOrderIsSeenThroughThePorts: two ports hear unlike ones in all orders, and the best of both stays at its port.
func TestNoOrderIsSeenThroughThePorts(t *testing.T) {
	sets := unlike(mixedSets(6), 3)
	least := slices.MinFunc(sets, rank.Grand)
	want := 1
	if slices.Contains(sets[:3], least) {
		want = 0
	}
	for _, one := range allOrders(sets[:3]) {
		for _, two := range allOrders(sets[3:]) {
			other := api.Port{Clock: receiver().Clock, Number: 5}
			l := []best.Choice{best.Port(one, receiver()), best.Port(two, other), best.Port(nil, api.Port{})}
			if n := best.All(l); n != want || l[n].Set.Grand != least.Grand {
				t.Errorf("P9.2: All of what two ports heard: %d, not %d", n, want)
			}
		}
	}
}

func TestNoneAndSets(t *testing.T) {
	for _, s := range append(mixedSets(300), api.Set{}, none().Set) {
		for _, c := range []best.Choice{{}, none(), {Set: s}} {
			if !best.Better(is(s), c) {
				t.Errorf("P9.2: %+v is not Better than none", s)
			}
			if best.Better(c, is(s)) {
				t.Errorf("P9.2: none (%+v) is Better than %+v", c, s)
			}
			if best.Better(c, best.Choice{}) || best.Better(best.Choice{}, c) || best.Better(c, c) {
				t.Errorf("P9.2: none (%+v) is Better than none", c)
			}
		}
	}
}

// TestTheBestIsBetterThanAll has unlike Grands: the one of All is Better than each other one, and no other one is Better than it.
func TestTheBestIsBetterThanAll(t *testing.T) {
	for l := range slices.Chunk(mixedSets(300), 6) {
		var choices []best.Choice
		for i, s := range unlike(l, l[0].Steps&7) {
			choices = append(choices, best.Choice{Set: s, Is: i != 2})
		}
		n := best.All(choices)
		for i, c := range choices {
			if i != n && (!best.Better(choices[n], c) || best.Better(c, choices[n])) {
				t.Errorf("P9.2: %d is the one of All, but %d is not worse: %+v", n, i, choices)
			}
		}
	}
}

func TestTheSameIsToldAgain(t *testing.T) {
	l := mixedSets(60)
	for i, s := range l {
		for _, r := range l {
			a, b := is(s), best.Choice{Set: r, Is: i%2 == 0}
			pair := []api.Set{s, r}
			if best.Port(pair, receiver()) != best.Port(pair, receiver()) || best.All([]best.Choice{a, b}) != best.All([]best.Choice{a, b}) || best.Better(a, b) != best.Better(a, b) || best.ByWay(a, b) != best.ByWay(a, b) {
				t.Errorf("R7: %+v and %+v are told otherwise the second time", a, b)
			}
		}
	}
}
