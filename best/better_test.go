package best_test

import (
	"math"
	"testing"

	"horologe/api"
	"horologe/best"
	"horologe/rank"
)

// held is a pair of sets, and what rank.Compare tells of them, written out.
type held struct {
	what string
	a, b api.Set
	want int
}

func pairs() []held {
	near := heard(1)
	// The further one's Receiver comes ahead of its Sender, behind it, or is it.
	far := func(clock api.Clock) api.Set {
		return changed(near, steps(4), func(s *api.Set) { s.Receiver.Clock = clock })
	}
	return []held{
		{"unlike Grands", heard(1), heard(2), 1},
		{"Priority1", changed(heard(2), func(s *api.Set) { s.Priority1 = 127 }), heard(1), 1},
		{"Class", changed(heard(2), func(s *api.Set) { s.Quality.Class = 6 }), heard(1), 1},
		{"unlike Grands against the way", changed(heard(1), steps(200)), heard(2), 1},
		{"two steps nearer", near, changed(near, steps(5)), 1},
		{"one step nearer", near, far(api.Clock{6}), 1},
		{"one step nearer by its way", near, far(api.Clock{8}), 2},
		{"one step nearer, heard of itself", near, far(api.Clock{7, 7, 7, 7, 7, 7, 7, 7}), 5},
		{"the Sender's Clock", changed(near, func(s *api.Set) { s.Sender.Clock[7] = 6 }), near, 2},
		{"the Sender's Number", changed(near, func(s *api.Set) { s.Sender.Number = 1 }), near, 2},
		{"the Receiver's Number", changed(near, byNumber(3)), near, 2},
		{"the same", near, near, 6},
		{"the same but for what is not asked", near, changed(near, func(s *api.Set) { s.Priority1 = 1 }), 6},
		{"zeros", api.Set{}, api.Set{}, 6},
	}
}

func TestBetterAndByWayOfSets(t *testing.T) {
	for _, x := range pairs() {
		if n := rank.Compare(x.a, x.b); n != x.want {
			t.Errorf("%s: Compare: %d, not %d", x.what, n, x.want)
		}
		checkBetter(t, x.what, is(x.a), is(x.b), x.want <= 2)
		checkBetter(t, x.what+", turned", is(x.b), is(x.a), false)
		checkByWay(t, x.what, is(x.a), is(x.b), x.want == 2)
		checkByWay(t, x.what+", turned", is(x.b), is(x.a), false)
	}
}

func TestBetterAndByWayOfNone(t *testing.T) {
	checkBetter(t, "none and none", best.Choice{}, best.Choice{}, false)
	checkByWay(t, "none and none", best.Choice{}, best.Choice{}, false)
	for _, x := range pairs() {
		a, b := best.Choice{Set: x.a}, best.Choice{Set: x.b}
		checkBetter(t, "none and none, "+x.what, a, b, false)
		checkBetter(t, "none and none, "+x.what+", turned", b, a, false)
		checkBetter(t, "none and a set, "+x.what, a, is(x.b), false)
		checkBetter(t, "none and a set, "+x.what+", turned", b, is(x.a), false)
		checkBetter(t, "a set and none, "+x.what, is(x.a), b, true)
		checkBetter(t, "a set and none, "+x.what+", turned", is(x.b), a, true)
		checkByWay(t, "none and none, "+x.what, a, b, false)
		checkByWay(t, "none and a set, "+x.what, a, is(x.b), false)
		checkByWay(t, "a set and none, "+x.what, is(x.a), b, false)
	}
}

// TestBetterAgainstNoneOfZeros: none is not taken for a set of zeros, which is better than most.
func TestBetterAgainstNoneOfZeros(t *testing.T) {
	for _, n := range rising() {
		worst := is(changed(heard(255), func(s *api.Set) { s.Priority1 = n }))
		checkBetter(t, "a set and none", worst, best.Choice{}, true)
		checkBetter(t, "a set and none", worst, none(), true)
		checkBetter(t, "none and a set", none(), worst, false)
		checkByWay(t, "none and a set", none(), worst, false)
	}
	checkBetter(t, "a set of zeros and none", is(api.Set{}), best.Choice{}, true)
	checkBetter(t, "none and a set of zeros", best.Choice{}, is(api.Set{}), false)
}

func TestBetterAndByWayOfNumbersAtTheEdges(t *testing.T) {
	for x := range edgePairs() {
		checkBetter(t, "edges", is(x.better), is(x.worse), true)
		checkBetter(t, "edges", is(x.worse), is(x.better), false)
		checkByWay(t, "edges", is(x.better), is(x.worse), x.byWay)
		checkByWay(t, "edges", is(x.worse), is(x.better), false)
	}
}

func TestBetterAndByWayOfMixedChoices(t *testing.T) {
	l := mixedSets(150)
	count := map[int]int{}
	for i, s := range l {
		for j, r := range l {
			a, b := best.Choice{Set: s, Is: i%4 != 0}, best.Choice{Set: r, Is: j%5 != 0}
			n := rank.Compare(s, r)
			count[n]++
			checkBetter(t, "mixed", a, b, a.Is && !b.Is || a.Is && n <= 2)
			checkByWay(t, "mixed", a, b, a.Is && b.Is && n == 2)
			if best.Better(a, b) && best.Better(b, a) {
				t.Errorf("P9.1: %+v and %+v are each Better than the other", a, b)
			}
		}
	}
	for n := 1; n <= 6; n++ {
		if count[n] < 100 {
			t.Errorf("Compare told %d so often alone: %d", n, count[n])
		}
	}
}

func TestOwn(t *testing.T) {
	c := api.Clock{1, 2, 3, 4, 5, 6, 7, 8}
	want := api.Set{
		Priority1: 11,
		Priority2: 22,
		Quality:   api.Quality{Class: 33, Accuracy: 44, Variance: 55},
		Grand:     c,
		Steps:     0,
		Sender:    api.Port{Clock: c, Number: 0},
		Receiver:  api.Port{Clock: c, Number: 0},
	}
	if s := best.Own(c, api.Quality{Class: 33, Accuracy: 44, Variance: 55}, 11, 22); s != want {
		t.Errorf("P9.1: Own: %+v, not %+v", s, want)
	}
	if s := best.Own(api.Clock{}, api.Quality{}, 0, 0); s != (api.Set{}) {
		t.Errorf("P9.1: Own of zeros: %+v", s)
	}
}

func TestOwnOfNumbersAtTheEdges(t *testing.T) {
	for i, n := range rising() {
		other := rising()[len(rising())-1-i]
		c := api.Clock{0xff, 7: byte(i)}
		q := api.Quality{Class: n, Accuracy: other, Variance: math.MinInt + i}
		self := api.Port{Clock: c}
		want := api.Set{Priority1: other, Priority2: n, Quality: q, Grand: c, Sender: self, Receiver: self}
		if s := best.Own(c, q, other, n); s != want {
			t.Errorf("P9.1: Own: %+v, not %+v", s, want)
		}
	}
}
