package decide_test

import (
	"math"
	"slices"
	"testing"

	"horologe/api"
	"horologe/best"
	"horologe/decide"
	"horologe/rank"
)

// heard is a choice with nothing that is at an edge: of two with unlike grandmasters that of the lesser one is better.
func heard(grand byte) best.Choice {
	return best.Choice{Set: api.Set{
		Priority1: 128,
		Priority2: 127,
		Quality:   api.Quality{Class: 200, Accuracy: 33, Variance: 0x4e5d},
		Grand:     api.Clock{1, 2, 3, 4, 5, 6, 7, grand},
		Steps:     3,
		Sender:    api.Port{Clock: api.Clock{7, 7, 7, 7, 7, 7, 7, 7}, Number: 2},
		Receiver:  api.Port{Clock: api.Clock{9, 9, 9, 9, 9, 9, 9, 9}, Number: 4},
	}, Is: true}
}

// own is what a clock of a class says of itself: worse than good, and better than bad, whatever its class is.
func own(class int) api.Set {
	return best.Own(api.Clock{9, 9, 9, 9, 9, 9, 9, 9}, api.Quality{Class: class, Accuracy: 33}, 128, 128)
}

func good() best.Choice { return changed(heard(1), func(s *api.Set) { s.Priority1 = 1 }) }

func bad() best.Choice { return changed(heard(2), func(s *api.Set) { s.Priority1 = 200 }) }

// none has a set that is better than all others here, and is nothing.
func none() best.Choice {
	return best.Choice{Set: api.Set{Priority1: math.MinInt, Quality: api.Quality{Class: math.MinInt}}}
}

func changed(c best.Choice, changes ...func(s *api.Set)) best.Choice {
	for _, f := range changes {
		f(&c.Set)
	}
	return c
}

func steps(n int) func(s *api.Set) { return func(s *api.Set) { s.Steps = n } }

func sender(n int) func(s *api.Set) { return func(s *api.Set) { s.Sender.Number = n } }

// round are choices each of which is better than the next one, and the last one than the first: one Grand is told of with unlike numbers.
func round() []best.Choice {
	return []best.Choice{
		changed(heard(5), steps(9), func(s *api.Set) { s.Priority1 = 1 }),
		changed(heard(6), func(s *api.Set) { s.Priority1 = 2 }),
		changed(heard(5), steps(1), func(s *api.Set) { s.Priority1 = 3 }),
	}
}

// leaders are the classes of clocks that follow nobody, at their edges; followers those of others, and what no class is.
func leaders() []int { return []int{1, 2, 6, 7, 64, 126, 127} }

func followers() []int {
	return []int{0, 128, 129, 248, 254, 255, -1, -6, -127, 256, 257, 1<<32 + 6, math.MinInt, math.MinInt + 6, math.MaxInt}
}

// in are the states in which a port takes part and need not have heard anything; those that there are not are among them.
func in() []int {
	return []int{
		api.PreMaster, api.Master, api.Passive, api.Uncalibrated, api.Slave,
		0, -1, -4, 10, 255, 1<<32 + api.Disabled, math.MinInt, math.MinInt + api.Faulty, math.MaxInt,
	}
}

func out() []int { return []int{api.Initializing, api.Faulty, api.Disabled} }

func states() []int { return slices.Concat(in(), out(), []int{api.Listening}) }

// edges are wrong numbers, too, and the least and the greatest ones that there are; they rise.
func edges() []int {
	return []int{math.MinInt, math.MinInt + 1, -65536, -1, 0, 1, 2, 255, 65536, math.MaxInt - 1, math.MaxInt}
}

// taker gives numbers below n by a rule, alike at every run.
func taker(start uint64) func(n int) int {
	x := start
	return func(n int) int {
		x = x*6364136223846793005 + 1442695040888963407
		return int(x >> 33 % uint64(n))
	}
}

// mixed is one of many choices; their clocks and numbers are few, so that many are alike in much, and some have each a better one.
func mixed(take func(n int) int) best.Choice {
	c := heard(byte(take(2)))
	c.Is = take(5) != 0
	for _, f := range []*int{&c.Set.Priority1, &c.Set.Quality.Class, &c.Set.Quality.Accuracy, &c.Set.Quality.Variance, &c.Set.Priority2} {
		*f = 3 + take(9)/8
	}
	c.Set.Steps = take(3)
	c.Set.Sender = api.Port{Clock: api.Clock{byte(take(3))}, Number: 1 + take(2)}
	c.Set.Receiver = api.Port{Clock: api.Clock{1}, Number: 1 + take(2)}
	if take(9) == 0 {
		c.Set.Steps = edges()[take(11)]
	}
	return c
}

// mixedCase is a clock with up to six ports, of a class of either kind.
func mixedCase(take func(n int) int) (api.Set, []best.Choice, []int) {
	self := mixed(take).Set
	self.Steps = take(2) * take(3)
	if take(3) == 0 {
		self.Quality.Class = followers()[take(len(followers()))]
	}
	self.Priority1 += take(3)
	var all []best.Choice
	for range take(7) {
		all = append(all, mixed(take))
	}
	var l []int
	for range take(9) {
		l = append(l, states()[take(len(states()))])
	}
	return self, all, l
}

// meant is P10.1 by its own words, and by rank alone.
func meant(self api.Set, all []best.Choice, k, state int) int {
	if k < 0 || k >= len(all) || slices.Contains(out(), state) || state == api.Listening && !all[k].Is {
		return decide.None
	}
	r := all[k]
	n := slices.IndexFunc(all, func(a best.Choice) bool {
		return a.Is && !slices.ContainsFunc(all, func(c best.Choice) bool { return c.Is && rank.Less(c.Set, a.Set) })
	})
	class := self.Quality.Class
	switch {
	case 1 <= class && class <= 127 && (!r.Is || rank.Less(self, r.Set)):
		return decide.M1
	case 1 <= class && class <= 127:
		return decide.P1
	case n < 0 || rank.Less(self, all[n].Set):
		return decide.M2
	case n == k:
		return decide.S1
	case r.Is && rank.Compare(all[n].Set, r.Set) == 2:
		return decide.P2
	}
	return decide.M3
}

func checkPort(t *testing.T, what string, self api.Set, all []best.Choice, k, state, want int) {
	t.Helper()
	if code := decide.Port(self, all, k, state); code != want {
		t.Errorf("P10.1: %s: Port(%+v, %+v, %d, %d): %d, not %d", what, self, all, k, state, code, want)
	}
}

func checkAll(t *testing.T, what string, self api.Set, all []best.Choice, states []int, want ...int) {
	t.Helper()
	if codes := decide.All(self, all, states); !slices.Equal(codes, want) {
		t.Errorf("P10.2: %s: All(%+v, %+v, %v): %v, not %v", what, self, all, states, codes, want)
	}
}

// checkEach asks All, and Port of each port, where all ports are in one state.
func checkEach(t *testing.T, what string, self api.Set, all []best.Choice, state int, want ...int) {
	t.Helper()
	for k, code := range want {
		checkPort(t, what, self, all, k, state, code)
	}
	checkAll(t, what, self, all, slices.Repeat([]int{state}, len(all)), want...)
}

func TestTheCodes(t *testing.T) {
	codes := []int{decide.None, decide.M1, decide.M2, decide.M3, decide.S1, decide.P1, decide.P2}
	if !slices.Equal(codes, []int{0, 1, 2, 3, 4, 5, 6}) {
		t.Errorf("the codes are %v", codes)
	}
}

func TestTheChaptersExamples(t *testing.T) {
	checkPort(t, "an example", own(248), []best.Choice{{}}, 0, api.Listening, decide.None)
	checkPort(t, "an example", own(248), []best.Choice{{}}, 0, api.Master, decide.M2)
	checkPort(t, "an example", own(248), []best.Choice{good()}, 0, api.Listening, decide.S1)
}
