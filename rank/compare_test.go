package rank_test

import (
	"math"
	"testing"

	"horologe/api"
	"horologe/rank"
)

// turned is what Turn is to tell of an answer of Compare, written out.
func turned(n int) int { return map[int]int{1: 3, 2: 4, 3: 1, 4: 2, 5: 5, 6: 6}[n] }

func checkCompare(t *testing.T, what string, a, b api.Set, want int) {
	t.Helper()
	if n := rank.Compare(a, b); n != want {
		t.Errorf("P7.2: %s: Compare(%+v, %+v): %d, not %d", what, a, b, n, want)
	}
	if n := rank.Compare(b, a); n != turned(want) {
		t.Errorf("P7.4: %s, turned: Compare(%+v, %+v): %d, not %d", what, b, a, n, turned(want))
	}
	if is := rank.Less(a, b); is != (want == 1 || want == 2) {
		t.Errorf("P7.3: %s: Less(%+v, %+v): %v", what, a, b, is)
	}
	if is := rank.Less(b, a); is != (want == 3 || want == 4) {
		t.Errorf("P7.3: %s, turned: Less(%+v, %+v): %v", what, b, a, is)
	}
}

func TestCompareOfTheChaptersExamples(t *testing.T) {
	one, two := api.Clock{1}, api.Clock{2}
	checkCompare(t, "Priority1", api.Set{Priority1: 1, Grand: two}, api.Set{Priority1: 2, Grand: one}, 1)
	checkCompare(t, "Steps", api.Set{Grand: one}, api.Set{Grand: one, Steps: 2}, 1)
	checkCompare(t, "Receivers", api.Set{Grand: one, Receiver: api.Port{Number: 2}}, api.Set{Grand: one, Receiver: api.Port{Number: 1}}, 4)
}

// favoured makes a set the better one by its way, as far as the grandmaster does not say otherwise.
func favoured(s *api.Set) {
	s.Steps, s.Sender, s.Receiver = 0, api.Port{}, api.Port{}
}

// TestCompareOfUnlikeGrands has grandmasters that are unlike in one part, besides the clock, which says otherwise, as does the way.
func TestCompareOfUnlikeGrands(t *testing.T) {
	for _, p := range graded() {
		for i, m := range edges() {
			for j, n := range edges() {
				a, b := plain(), plain()
				p.set(&a, m)
				p.set(&b, n)
				a.Grand, b.Grand = api.Clock{6}, api.Clock{4}
				want := map[int]int{-1: 1, 0: 3, 1: 3}[sign(i, j)]
				checkCompare(t, p.name, a, b, want)
				favoured(&b)
				checkCompare(t, p.name+" against the way", a, b, want)
			}
		}
	}
	for i := range 8 {
		a, b := plain(), plain()
		a.Grand[i]--
		checkCompare(t, "Grand", a, b, 1)
		favoured(&b)
		checkCompare(t, "Grand against the way", a, b, 1)
	}
}

// TestCompareOfTwoPartsThatSayOtherwise has the part that comes first in the chapter's order say which one is better.
func TestCompareOfTwoPartsThatSayOtherwise(t *testing.T) {
	l := gradedAndClock()
	for i, first := range l {
		for _, other := range l[i+1:] {
			a, b := plain(), plain()
			a.Grand, b.Grand = api.Clock{3, 1}, api.Clock{3, 2}
			first.set(&a, 1)
			first.set(&b, 2)
			other.set(&a, 200)
			other.set(&b, 100)
			checkCompare(t, first.name+" and "+other.name, a, b, 1)
		}
	}
}

// TestCompareOfOneGrandIsByTheWayAlone has one clock that is told of with unlike numbers: these are not asked.
func TestCompareOfOneGrandIsByTheWayAlone(t *testing.T) {
	for _, p := range graded() {
		for _, n := range edges() {
			graded := func(s *api.Set) { p.set(s, n) }
			checkCompare(t, p.name, plain(), with(graded), 6)
			checkCompare(t, p.name, plain(), with(graded, func(s *api.Set) { s.Steps = 5 }), 1)
			checkCompare(t, p.name, plain(), with(graded, func(s *api.Set) { s.Steps = 4 }), 2)
			checkCompare(t, p.name, plain(), with(graded, func(s *api.Set) { s.Sender.Number = 1 }), 4)
			checkCompare(t, p.name, plain(), with(graded, func(s *api.Set) { s.Receiver.Number = 5 }), 2)
		}
	}
}

// way is whose clocks a set came by; want is what is to be told of it at one step more.
type way struct {
	sender, receiver api.Clock
	want             int
}

// hearing are ways of which the Receiver's Clock is ahead of the Sender's, behind it, or the same, in the first byte or the last.
func hearing() []way {
	return []way{
		{api.Clock{7}, api.Clock{6}, 3},
		{api.Clock{7}, api.Clock{8}, 4},
		{api.Clock{7}, api.Clock{7}, 5},
		{api.Clock{1, 7: 7}, api.Clock{1, 7: 6}, 3},
		{api.Clock{1, 7: 7}, api.Clock{1, 7: 8}, 4},
		{api.Clock{1, 7: 7}, api.Clock{1, 7: 7}, 5},
		{api.Clock{2}, api.Clock{1, 7: 0xff}, 3},
		{api.Clock{1, 7: 0xff}, api.Clock{2}, 4},
		{api.Clock{0xff}, api.Clock{}, 3},
		{api.Clock{}, api.Clock{0xff}, 4},
		{api.Clock{}, api.Clock{}, 5},
	}
}

// TestCompareOfOneStepMore has the way of the further one asked, and no Number of it; that of the nearer one is not asked.
func TestCompareOfOneStepMore(t *testing.T) {
	for _, x := range hearing() {
		for _, other := range hearing() {
			for _, n := range edges() {
				if n == math.MaxInt {
					continue
				}
				far, near := plain(), plain()
				far.Steps, near.Steps = n+1, n
				far.Sender.Clock, far.Receiver.Clock = x.sender, x.receiver
				near.Sender.Clock, near.Receiver.Clock = other.sender, other.receiver
				checkCompare(t, "one step more", far, near, x.want)
				far.Sender.Number, far.Receiver.Number = 1, 9
				checkCompare(t, "one step more, Numbers", far, near, x.want)
				far.Sender.Number, far.Receiver.Number = 9, 1
				checkCompare(t, "one step more, Numbers", far, near, x.want)
				near.Sender.Number, near.Receiver.Number = math.MinInt, math.MaxInt
				checkCompare(t, "one step more, Numbers", far, near, x.want)
			}
		}
	}
}

// TestCompareOfMoreSteps has two more, and up to all that there are: no way is asked then.
func TestCompareOfMoreSteps(t *testing.T) {
	for _, x := range hearing() {
		for i, n := range edges() {
			beyond := append([]int{}, edges()[i+1:]...)
			for _, m := range []int{2, 3, 100} {
				if n <= math.MaxInt-m {
					beyond = append(beyond, n+m)
				}
			}
			for _, m := range beyond {
				if m-1 == n {
					continue
				}
				far, near := plain(), plain()
				far.Steps, near.Steps = m, n
				far.Sender.Clock, far.Receiver.Clock = x.sender, x.receiver
				checkCompare(t, "more steps", far, near, 3)
				near.Sender, near.Receiver = far.Receiver, far.Sender
				checkCompare(t, "more steps", far, near, 3)
			}
		}
	}
}

// TestCompareAtTheGreatestSteps has numbers of which one more is none, and those of which one less is none.
func TestCompareAtTheGreatestSteps(t *testing.T) {
	steps := func(n int) api.Set { return with(func(s *api.Set) { s.Steps = n }) }
	for _, x := range []struct{ a, b, want int }{
		{math.MaxInt, math.MaxInt, 6},
		{math.MaxInt, math.MaxInt - 1, 4},
		{math.MaxInt, math.MaxInt - 2, 3},
		{math.MaxInt, 0, 3},
		{math.MaxInt, -1, 3},
		{math.MaxInt, math.MinInt, 3},
		{math.MinInt, math.MinInt, 6},
		{math.MinInt + 1, math.MinInt, 4},
		{math.MinInt + 2, math.MinInt, 3},
		{0, math.MinInt, 3},
		{0, -1, 4},
		{1, -1, 3},
		{-1, -2, 4},
		{-1, -3, 3},
	} {
		checkCompare(t, "Steps", steps(x.a), steps(x.b), x.want)
	}
}

// TestCompareOfSenders has them unlike in the Clock or in the Number alone, and in both, which say otherwise; the Receivers say otherwise, too.
func TestCompareOfSenders(t *testing.T) {
	for i := range 8 {
		ahead := func(s *api.Set) { s.Sender.Clock[i]-- }
		checkCompare(t, "Sender's Clock", with(ahead), plain(), 2)
		checkCompare(t, "Sender's Clock against its Number", with(ahead, func(s *api.Set) { s.Sender.Number = 9 }), plain(), 2)
		checkCompare(t, "Sender's Clock against the Receiver", with(ahead, func(s *api.Set) { s.Receiver.Number = 9 }), plain(), 2)
	}
	for i, m := range edges() {
		for j, n := range edges() {
			if i == j {
				continue
			}
			a, b := plain(), plain()
			a.Sender.Number, b.Sender.Number = m, n
			want := map[int]int{-1: 2, 1: 4}[sign(i, j)]
			checkCompare(t, "Sender's Number", a, b, want)
			a.Receiver.Number, b.Receiver.Number = n, m
			checkCompare(t, "Sender's Number against the Receiver's", a, b, want)
		}
	}
}

// TestCompareOfReceivers has their Numbers alone asked: their Clocks are not.
func TestCompareOfReceivers(t *testing.T) {
	for i, m := range edges() {
		for j, n := range edges() {
			a, b := plain(), plain()
			a.Receiver.Number, b.Receiver.Number = m, n
			want := map[int]int{-1: 2, 0: 6, 1: 4}[sign(i, j)]
			checkCompare(t, "Receiver's Number", a, b, want)
			a.Receiver.Clock, b.Receiver.Clock = api.Clock{0xff}, api.Clock{}
			checkCompare(t, "Receiver's Number against its Clock", a, b, want)
			a.Receiver.Clock, b.Receiver.Clock = b.Receiver.Clock, a.Receiver.Clock
			checkCompare(t, "Receiver's Number against its Clock", a, b, want)
		}
	}
	checkCompare(t, "heard of itself at as many steps", with(func(s *api.Set) { s.Receiver.Clock = s.Sender.Clock }), plain(), 6)
}

func TestCompareOfMixedSets(t *testing.T) {
	l := mixedSets(600)
	count := map[int]int{}
	for _, a := range l {
		for _, b := range l {
			want := meantCompare(a, b)
			count[want]++
			checkCompare(t, "mixed", a, b, want)
		}
	}
	for n := 1; n <= 6; n++ {
		if count[n] < 500 {
			t.Errorf("the answer %d was asked %d times alone", n, count[n])
		}
	}
}

func TestTurn(t *testing.T) {
	for n := 1; n <= 6; n++ {
		if got := rank.Turn(n); got != turned(n) {
			t.Errorf("P7.3: Turn(%d): %d", n, got)
		}
	}
	for _, n := range append(edges(), -6, -5, -4, -3, 7, 8, 9, 10, 11, 12) {
		if n >= 1 && n <= 6 {
			continue
		}
		if got := rank.Turn(n); got != n {
			t.Errorf("P7.3: Turn(%d): %d", n, got)
		}
	}
}
