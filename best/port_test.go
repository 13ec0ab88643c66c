package best_test

import (
	"math"
	"slices"
	"testing"

	"horologe/api"
	"horologe/best"
	"horologe/rank"
)

func TestPortOfNoSets(t *testing.T) {
	checkPort(t, "nil", nil, receiver(), best.Choice{})
	checkPort(t, "an empty list", []api.Set{}, receiver(), best.Choice{})
	// There are some in the room behind it, which do not count.
	checkPort(t, "an empty list", []api.Set{heard(1), heard(2)}[:0], receiver(), best.Choice{})
	checkPort(t, "nobody's port", nil, api.Port{}, best.Choice{})
}

func TestPortOfOneSet(t *testing.T) {
	checkPort(t, "one", []api.Set{heard(1)}, receiver(), is(heard(1)))
	checkPort(t, "zeros", []api.Set{{}}, api.Port{}, is(api.Set{}))
	for _, s := range mixedSets(300) {
		checkPort(t, "one", []api.Set{s}, receiver(), is(changed(s, by(receiver()))))
	}
}

func TestPortOfSeveralSets(t *testing.T) {
	near := []api.Set{changed(heard(4), steps(1)), changed(heard(4), steps(3)), changed(heard(4), steps(5))}
	l := []api.Set{heard(1), heard(2), heard(3), heard(4)}
	for _, o := range allOrders(l) {
		checkPort(t, "unlike Grands", o, receiver(), is(l[0]))
	}
	for _, o := range allOrders(near) {
		checkPort(t, "one Grand", o, receiver(), is(near[0]))
	}
	for _, o := range allOrders(append(near, heard(3))) {
		checkPort(t, "two Grands", o, receiver(), is(heard(3)))
	}
}

// TestPortTellsTheReceiverThatItIsGiven has sets that came with another one, the same, or unlike ones.
func TestPortTellsTheReceiverThatItIsGiven(t *testing.T) {
	for _, n := range rising() {
		p := api.Port{Clock: api.Clock{byte(n), 7: 3}, Number: n}
		want := is(changed(heard(1), by(p)))
		checkPort(t, "another Receiver", []api.Set{heard(1)}, p, want)
		checkPort(t, "the same Receiver", []api.Set{want.Set}, p, want)
		checkPort(t, "unlike Receivers", []api.Set{heard(2), changed(heard(1), by(api.Port{})), changed(heard(3), by(p))}, p, want)
	}
}

// TestPortAsksTheGivenReceiver: at one step more the Receiver's Clock says whether the nearer one is better at all.
func TestPortAsksTheGivenReceiver(t *testing.T) {
	far, near := changed(heard(1), steps(4)), heard(1)
	for _, x := range []struct {
		clock api.Clock
		want  api.Set
	}{
		{api.Clock{6}, near},
		{api.Clock{8}, near},
		{far.Sender.Clock, far},
	} {
		p := api.Port{Clock: x.clock, Number: 1}
		for _, with := range []api.Port{{}, receiver(), near.Sender, {Clock: api.Clock{6}}} {
			l := []api.Set{changed(far, by(with)), changed(near, by(with))}
			checkPort(t, "one step more", l, p, is(changed(x.want, by(p))))
		}
	}
}

// TestPortAsksNoReceiverThatCame: by those that came the second one would be better, by one Receiver they are the same.
func TestPortAsksNoReceiverThatCame(t *testing.T) {
	a := changed(heard(1), byNumber(2), func(s *api.Set) { s.Priority1 = 7 })
	b := changed(heard(1), byNumber(1))
	checkPort(t, "the first of two", []api.Set{a, b}, receiver(), is(changed(a, by(receiver()))))
	checkPort(t, "the first of two", []api.Set{b, a}, receiver(), is(changed(b, by(receiver()))))
}

// TestPortIsTheFirstOfThem has sets of which none is better, told apart by what is not asked where the Grand is one.
func TestPortIsTheFirstOfThem(t *testing.T) {
	word := func(n int) api.Set { return changed(heard(1), func(s *api.Set) { s.Quality.Accuracy = n }) }
	worse := changed(heard(1), steps(9))
	checkPort(t, "all of them", []api.Set{word(3), word(1), word(2)}, receiver(), is(word(3)))
	checkPort(t, "behind worse ones", []api.Set{worse, worse, word(2), word(1), worse, word(3)}, receiver(), is(word(2)))
	checkPort(t, "the same", []api.Set{word(1), word(1), word(1)}, receiver(), is(word(1)))
}

func TestPortWhereEachSetHasABetterOne(t *testing.T) {
	for i, a := range round() {
		if b := round()[(i+1)%3]; !rank.Less(a, b) {
			t.Errorf("%d of three that go round is not Less than the next one", i)
		}
	}
	for _, o := range allOrders(round()) {
		checkPort(t, "three that go round", o, receiver(), best.Choice{})
		checkPort(t, "three that go round", o, api.Port{}, best.Choice{})
		worst := changed(heard(7), func(s *api.Set) { s.Priority1 = 4 })
		checkPort(t, "a worse one behind", append(slices.Clone(o), worst), receiver(), best.Choice{})
		checkPort(t, "a worse one ahead", append([]api.Set{worst}, o...), receiver(), best.Choice{})
		better := changed(heard(7), func(s *api.Set) { s.Priority1 = 0 })
		checkPort(t, "a better one behind", append(slices.Clone(o), better), receiver(), is(better))
		checkPort(t, "a better one ahead", append([]api.Set{better}, o...), receiver(), is(better))
	}
}

func TestPortOfNumbersAtTheEdges(t *testing.T) {
	for x := range edgePairs() {
		if x.better.Receiver != receiver() || x.worse.Receiver != receiver() {
			continue // by one Receiver they are the same
		}
		checkPort(t, "edges", []api.Set{x.better, x.worse}, receiver(), is(x.better))
		checkPort(t, "edges", []api.Set{x.worse, x.better}, receiver(), is(x.better))
	}
}

func TestPortOfMixedSets(t *testing.T) {
	receivers := []api.Port{{}, receiver(), {Clock: api.Clock{1, 7: 1}, Number: math.MinInt}, {Clock: api.Clock{2, 7: 1}, Number: math.MaxInt}}
	nobody := 0
	for size := 1; size <= 7; size++ {
		for l := range slices.Chunk(mixedSets(400*size), size) {
			for _, p := range receivers {
				var own []api.Set
				for _, s := range l {
					own = append(own, changed(s, by(p)))
				}
				want := best.Choice{}
				if n := rank.First(own); n >= 0 {
					want = is(own[n])
				} else {
					nobody++
				}
				checkPort(t, "mixed", l, p, want)
			}
		}
	}
	if nobody < 20 {
		t.Errorf("each set had a better one %d times alone", nobody)
	}
}

func TestPortChangesNothing(t *testing.T) {
	l := append(round(), mixedSets(6)...)
	whole := slices.Clone(l)
	best.Port(l[:4], api.Port{Number: 77})
	best.Port(l[:0], api.Port{Number: 78})
	if !slices.Equal(l, whole) {
		t.Errorf("R5: Port changed its list: %+v", l)
	}
}

func TestPortKeepsNothing(t *testing.T) {
	l := []api.Set{heard(2), heard(1)}
	c := best.Port(l, receiver())
	clear(l)
	if c != is(heard(1)) {
		t.Errorf("R6: what Port told changed with the list: %+v", c)
	}
	c.Set.Priority1 = 0
	checkPort(t, "the same call again", []api.Set{heard(2), heard(1)}, receiver(), is(heard(1)))
}
