package best_test

import (
	"slices"
	"testing"

	"horologe/api"
	"horologe/best"
)

func TestAllOfNothing(t *testing.T) {
	checkAll(t, "no choices", -1)
	if n := best.All([]best.Choice{}); n != -1 {
		t.Errorf("P9.1: All of an empty list: %d", n)
	}
	// There are some in the room behind it, which do not count.
	if n := best.All([]best.Choice{is(heard(1)), none()}[:0]); n != -1 {
		t.Errorf("P9.1: All of an empty list: %d", n)
	}
}

func TestAllOfNoneAlone(t *testing.T) {
	for count := 1; count <= 9; count++ {
		checkAll(t, "none alone", -1, slices.Repeat([]best.Choice{{}}, count)...)
		checkAll(t, "none alone, with a Set", -1, slices.Repeat([]best.Choice{none()}, count)...)
	}
}

func TestAllOfOneSetAmongNone(t *testing.T) {
	for count := 1; count <= 9; count++ {
		for i := range count {
			for _, c := range []best.Choice{{}, none(), {Set: heard(0)}} {
				l := slices.Repeat([]best.Choice{c}, count)
				l[i] = is(heard(1))
				checkAll(t, "one set", i, l...)
				l[i] = is(api.Set{})
				checkAll(t, "one set of zeros", i, l...)
			}
		}
	}
}

func TestAllOfSetsThatAreTheSame(t *testing.T) {
	a := is(heard(1))
	checkAll(t, "the same", 0, a, a, a)
	checkAll(t, "the same behind none", 2, none(), none(), a, a)
	checkAll(t, "the same behind a worse one", 1, is(heard(2)), a, a)
	checkAll(t, "the same with none between", 1, none(), a, none(), a)
	elsewhere := is(changed(heard(1), func(s *api.Set) { s.Receiver.Clock = api.Clock{} }))
	checkAll(t, "the same but for the Receiver's Clock", 0, a, elsewhere)
	checkAll(t, "the same but for the Receiver's Clock", 0, elsewhere, a)
}

func TestAllOfUnlikeSets(t *testing.T) {
	l := []best.Choice{is(heard(1)), is(heard(2)), is(heard(3)), {}, none()}
	for _, o := range allOrders(l) {
		checkAll(t, "unlike Grands", slices.Index(o, l[0]), o...)
	}
	l = []best.Choice{is(changed(heard(1), steps(1))), is(changed(heard(1), steps(3))), is(changed(heard(1), steps(5))), none()}
	for _, o := range allOrders(l) {
		checkAll(t, "one Grand", slices.Index(o, l[0]), o...)
	}
}

// TestAllAsksTheReceiverOfEach: two ports heard the same, and the one of the lesser Number is ahead.
func TestAllAsksTheReceiverOfEach(t *testing.T) {
	one, two := is(changed(heard(1), byNumber(1))), is(changed(heard(1), byNumber(2)))
	checkAll(t, "Receivers", 0, one, two)
	checkAll(t, "Receivers", 1, two, one)
	checkAll(t, "Receivers", 2, two, none(), one)
	// What came one step further, and was heard from the one that hears, is neither better nor worse.
	self := is(changed(heard(1), steps(4), func(s *api.Set) { s.Receiver.Clock = s.Sender.Clock }))
	checkAll(t, "heard of itself", 0, self, one)
	checkAll(t, "heard of itself", 0, one, self)
	// It is as good as the one in the midst, but worse than the last one.
	checkAll(t, "better than one of those alone", 2, self, two, is(changed(heard(1), steps(1))))
}

func TestAllWhereEachSetHasABetterOne(t *testing.T) {
	var l []best.Choice
	for _, s := range round() {
		l = append(l, is(s))
	}
	for _, o := range allOrders(append(l, none())) {
		checkAll(t, "three that go round, and none", -1, o...)
	}
	better := is(changed(heard(7), func(s *api.Set) { s.Priority1 = 0 }))
	for _, o := range allOrders(append(l, better, none())) {
		checkAll(t, "three that go round, and one that is better", slices.Index(o, better), o...)
	}
	// One of the three is none: its Set counts for nothing, and the other two do not go round.
	checkAll(t, "two of three", 1, best.Choice{Set: round()[0]}, l[1], l[2])
	checkAll(t, "two of three", 2, l[0], best.Choice{Set: round()[1]}, l[2])
	checkAll(t, "two of three", 0, l[0], l[1], best.Choice{Set: round()[2]})
}

func TestAllOfNumbersAtTheEdges(t *testing.T) {
	for x := range edgePairs() {
		checkAll(t, "edges", 0, is(x.better), is(x.worse))
		checkAll(t, "edges", 2, is(x.worse), none(), is(x.better))
	}
}

func TestAllOfMixedChoices(t *testing.T) {
	count := map[int]int{}
	for size := 1; size <= 7; size++ {
		for l := range slices.Chunk(mixedSets(800*size), size) {
			var choices []best.Choice
			for i, s := range l {
				choices = append(choices, best.Choice{Set: s, Is: (s.Sender.Number+i)%3 != 0})
			}
			want := meantNumber(choices)
			count[want]++
			checkAll(t, "mixed", want, choices...)
		}
	}
	for n := -1; n < 7; n++ {
		if count[n] < 50 {
			t.Errorf("the answer %d was asked %d times alone", n, count[n])
		}
	}
}

func TestAllChangesNothing(t *testing.T) {
	l := []best.Choice{none(), is(heard(3)), {}, is(heard(1)), is(heard(2)), none()}
	whole := slices.Clone(l)
	best.All(l[:4])
	if !slices.Equal(l, whole) {
		t.Errorf("R5: All changed its list: %+v", l)
	}
}
