package decide_test

import (
	"math"
	"slices"
	"testing"

	"horologe/api"
	"horologe/best"
	"horologe/decide"
	"horologe/rank"
)

func TestOnePort(t *testing.T) {
	for _, state := range append(in(), api.Listening) {
		for _, class := range leaders() {
			checkEach(t, "a better one", own(class), []best.Choice{good()}, state, decide.P1)
			checkEach(t, "a worse one", own(class), []best.Choice{bad()}, state, decide.M1)
		}
		for _, class := range followers() {
			checkEach(t, "a better one", own(class), []best.Choice{good()}, state, decide.S1)
			checkEach(t, "a worse one", own(class), []best.Choice{bad()}, state, decide.M2)
		}
	}
}

func TestOnePortThatHeardNothing(t *testing.T) {
	for _, c := range []best.Choice{{}, none(), {Set: good().Set}, {Set: bad().Set}} {
		for _, state := range in() {
			for _, class := range leaders() {
				checkEach(t, "none", own(class), []best.Choice{c}, state, decide.M1)
			}
			for _, class := range followers() {
				checkEach(t, "none", own(class), []best.Choice{c}, state, decide.M2)
			}
		}
		for _, class := range slices.Concat(leaders(), followers()) {
			checkEach(t, "none, and listening", own(class), []best.Choice{c}, api.Listening, decide.None)
		}
	}
}

func TestStatesInWhichAPortIsOut(t *testing.T) {
	for _, state := range out() {
		for _, class := range slices.Concat(leaders(), followers()) {
			checkEach(t, "out", own(class), []best.Choice{good()}, state, decide.None)
			checkEach(t, "out", own(class), []best.Choice{bad(), {}, good(), none()}, state, decide.None, decide.None, decide.None, decide.None)
		}
	}
}

func TestSeveralPortsOfAClockThatFollowsNobody(t *testing.T) {
	for _, class := range leaders() {
		for _, state := range in() {
			checkEach(t, "each by what it heard", own(class), []best.Choice{bad(), good(), none(), good()}, state, decide.M1, decide.P1, decide.M1, decide.P1)
			checkEach(t, "worse ones alone", own(class), []best.Choice{bad(), bad(), {}}, state, decide.M1, decide.M1, decide.M1)
			checkEach(t, "better ones alone", own(class), []best.Choice{good(), good()}, state, decide.P1, decide.P1)
		}
		checkEach(t, "listening", own(class), []best.Choice{bad(), good(), none(), {}}, api.Listening, decide.M1, decide.P1, decide.None, decide.None)
	}
}

func TestSeveralPortsOfAClockThatMayFollow(t *testing.T) {
	better := changed(heard(0), func(s *api.Set) { s.Priority1 = 0 })
	for _, class := range followers() {
		for _, state := range in() {
			checkEach(t, "the best one behind", own(class), []best.Choice{bad(), good(), none(), better}, state, decide.M3, decide.M3, decide.M3, decide.S1)
			checkEach(t, "the best one ahead", own(class), []best.Choice{good(), none(), bad(), {}}, state, decide.S1, decide.M3, decide.M3, decide.M3)
			checkEach(t, "worse ones alone", own(class), []best.Choice{bad(), {}, bad()}, state, decide.M2, decide.M2, decide.M2)
			checkEach(t, "none alone", own(class), []best.Choice{{}, none()}, state, decide.M2, decide.M2)
		}
		checkEach(t, "listening", own(class), []best.Choice{bad(), good(), none(), {}}, api.Listening, decide.M3, decide.S1, decide.None, decide.None)
	}
}

func TestNumbersOfPorts(t *testing.T) {
	for _, class := range []int{6, 248} {
		for count := 1; count <= 9; count++ {
			all := slices.Repeat([]best.Choice{bad()}, count)
			all[count-1] = good()
			last := decide.S1
			if class == 6 {
				last = decide.P1
			}
			checkPort(t, "the last port", own(class), all, count-1, api.Master, last)
			for _, k := range []int{count, count + 1, count + 255, math.MaxInt, -1, -2, -count, math.MinInt, math.MinInt + 1} {
				for _, state := range states() {
					checkPort(t, "no port", own(class), all, k, state, decide.None)
					// There is room behind the list, which does not count.
					checkPort(t, "no port", own(class), append(all, good(), good())[:count], k, state, decide.None)
				}
			}
		}
		for _, k := range []int{0, 1, -1, math.MaxInt, math.MinInt} {
			checkPort(t, "no ports", own(class), nil, k, api.Master, decide.None)
			checkPort(t, "no ports", own(class), []best.Choice{}, k, api.Master, decide.None)
			checkPort(t, "no ports", own(class), []best.Choice{good()}[:0], k, api.Master, decide.None)
		}
	}
}

func TestOwnLikeAChoice(t *testing.T) {
	for _, class := range leaders() {
		checkEach(t, "the same", own(class), []best.Choice{{Set: own(class), Is: true}, bad()}, api.Master, decide.P1, decide.M1)
	}
	for _, class := range followers() {
		checkEach(t, "the same", own(class), []best.Choice{{Set: own(class), Is: true}, bad()}, api.Master, decide.S1, decide.M3)
	}
	checkEach(t, "zeros", api.Set{}, []best.Choice{{Is: true}, {}}, api.Master, decide.S1, decide.M3)
}

// TestOwnAgainstItsOwnGrand has choices of the clock's own Grand: the way tells which is better.
func TestOwnAgainstItsOwnGrand(t *testing.T) {
	by := func(class int, clock api.Clock) best.Choice {
		s := own(class)
		s.Steps, s.Sender = 1, api.Port{Clock: clock, Number: 1}
		return best.Choice{Set: s, Is: true}
	}
	for _, x := range []struct {
		what  string
		clock api.Clock
		want  []int
	}{
		{"own is nearer", api.Clock{10}, []int{decide.M1, decide.M2}},
		{"own is nearer by its way", api.Clock{8}, []int{decide.M1, decide.M2}},
		{"heard of itself", own(0).Grand, []int{decide.P1, decide.S1}},
	} {
		for i, class := range []int{6, 248} {
			checkEach(t, x.what, own(class), []best.Choice{by(class, x.clock)}, api.Master, x.want[i])
		}
	}
}

func TestTheBestIsAPortsByItsNumber(t *testing.T) {
	for count := 2; count <= 9; count++ {
		want := slices.Repeat([]int{decide.M3}, count)
		want[0] = decide.S1
		checkEach(t, "the same choice", own(248), slices.Repeat([]best.Choice{good()}, count), api.Slave, want...)
	}
	checkEach(t, "the same choice", own(248), []best.Choice{{}, bad(), good(), good()}, api.Slave, decide.M3, decide.M3, decide.S1, decide.M3)
	elsewhere := changed(good(), func(s *api.Set) { s.Receiver.Clock = api.Clock{} })
	checkEach(t, "the same but for what is not asked", own(248), []best.Choice{elsewhere, good()}, api.Slave, decide.S1, decide.M3)
}

func TestTheBestIsBetterByItsWayOrNot(t *testing.T) {
	near := changed(good(), steps(3))
	further := func(clock api.Clock) best.Choice {
		return changed(near, steps(4), func(s *api.Set) { s.Receiver.Clock = clock })
	}
	for _, x := range []struct {
		what          string
		r             best.Choice
		compare, want int
	}{
		{"the Sender's Number", changed(near, sender(3)), 2, decide.P2},
		{"the Sender's Clock", changed(near, func(s *api.Set) { s.Sender.Clock[7] = 8 }), 2, decide.P2},
		{"the Receiver's Number", changed(near, func(s *api.Set) { s.Receiver.Number = 5 }), 2, decide.P2},
		{"one step nearer by its way", further(api.Clock{8}), 2, decide.P2},
		{"one step nearer", further(api.Clock{6}), 1, decide.M3},
		{"one step nearer, heard of itself", further(near.Set.Sender.Clock), 5, decide.M3},
		{"two steps nearer", changed(near, steps(5)), 1, decide.M3},
		{"its grandmaster", changed(near, func(s *api.Set) { s.Priority1, s.Grand = 2, api.Clock{} }), 1, decide.M3},
		{"its grandmaster, worse than own", bad(), 1, decide.M3},
		{"the same", near, 6, decide.M3},
		{"none", none(), 0, decide.M3},
		{"none, of a worse way", best.Choice{Set: changed(near, sender(3)).Set}, 0, decide.M3},
	} {
		if x.r.Is && rank.Compare(near.Set, x.r.Set) != x.compare {
			t.Errorf("%s: Compare: %d, not %d", x.what, rank.Compare(near.Set, x.r.Set), x.compare)
		}
		checkEach(t, x.what, own(248), []best.Choice{near, x.r}, api.Passive, decide.S1, x.want)
		if x.compare == 1 || x.compare == 2 {
			checkEach(t, x.what, own(248), []best.Choice{x.r, near}, api.Passive, x.want, decide.S1)
		}
	}
}

// TestTheBestOfAPortThatIsOut is best all the same: All of best asks no state.
func TestTheBestOfAPortThatIsOut(t *testing.T) {
	all := []best.Choice{bad(), good(), changed(good(), sender(3))}
	for _, state := range out() {
		checkAll(t, "the best one is out", own(248), all, []int{api.Master, state, api.Master}, decide.M3, decide.None, decide.P2)
	}
}

func TestWhereEachChoiceHasABetterOne(t *testing.T) {
	// Behind all, and ahead of all.
	last := changed(heard(0), func(s *api.Set) { s.Priority1 = 9 }).Set
	first := changed(heard(0), func(s *api.Set) { s.Priority1 = 0 }).Set
	all := append(round(), none())
	if n := best.All(all); n != -1 {
		t.Fatalf("All of three that go round: %d", n)
	}
	for _, self := range []api.Set{last, first, round()[0].Set, round()[1].Set} {
		for _, class := range followers() {
			self.Quality.Class = class
			checkEach(t, "three that go round", self, all, api.Slave, decide.M2, decide.M2, decide.M2, decide.M2)
			checkEach(t, "three that go round", self, all, api.Listening, decide.M2, decide.M2, decide.M2, decide.None)
		}
	}
	for _, class := range leaders() {
		first.Quality.Class, last.Quality.Class = class, class
		checkEach(t, "three that go round", first, all, api.Slave, decide.M1, decide.M1, decide.M1, decide.M1)
		checkEach(t, "three that go round", last, all, api.Slave, decide.P1, decide.P1, decide.P1, decide.M1)
	}
	better := changed(good(), func(s *api.Set) { s.Priority1 = 0 })
	checkEach(t, "one that is better than three that go round", own(248), append(all, better), api.Slave, decide.M3, decide.M3, decide.M3, decide.M3, decide.S1)
}

func TestNumbersAtTheEdges(t *testing.T) {
	for name, set := range map[string]func(s *api.Set, n int){
		"Priority1": func(s *api.Set, n int) { s.Priority1 = n },
		"Accuracy":  func(s *api.Set, n int) { s.Quality.Accuracy = n },
		"Variance":  func(s *api.Set, n int) { s.Quality.Variance = n },
		"Priority2": func(s *api.Set, n int) { s.Priority2 = n },
	} {
		for i, low := range edges() {
			for _, high := range edges()[i+1:] {
				better, worse := heard(2), heard(1)
				set(&better.Set, low)
				set(&worse.Set, high)
				checkEach(t, name, better.Set, []best.Choice{worse}, api.Master, decide.M2)
				checkEach(t, name, worse.Set, []best.Choice{better, worse}, api.Master, decide.S1, decide.M3)
				better.Set.Quality.Class, worse.Set.Quality.Class = 6, 6
				checkEach(t, name, better.Set, []best.Choice{worse}, api.Master, decide.M1)
				checkEach(t, name, worse.Set, []best.Choice{better, worse}, api.Master, decide.P1, decide.P1)
			}
		}
	}
}

// TestNumbersOfAWayAtTheEdges are asked where the Grand is one.
func TestNumbersOfAWayAtTheEdges(t *testing.T) {
	for name, set := range map[string]func(s *api.Set, n int){
		"Steps":                 func(s *api.Set, n int) { s.Steps = n },
		"the Sender's Number":   func(s *api.Set, n int) { s.Sender.Number = n },
		"the Receiver's Number": func(s *api.Set, n int) { s.Receiver.Number = n },
	} {
		for i, low := range edges() {
			for _, high := range edges()[i+1:] {
				better, worse := heard(3), heard(3)
				set(&better.Set, low)
				set(&worse.Set, high)
				other := decide.P2
				if name == "Steps" && high != low+1 {
					other = decide.M3
				}
				checkEach(t, name, own(248), []best.Choice{worse, bad(), better}, api.Master, other, decide.M3, decide.S1)
				checkEach(t, name+", and a better Grand", own(248), []best.Choice{worse, bad(), good(), better}, api.Master, decide.M3, decide.M3, decide.S1, decide.M3)
				checkEach(t, name+", own's is less", better.Set, []best.Choice{worse, bad()}, api.Master, decide.M2, decide.M2)
				checkEach(t, name+", own's is greater", worse.Set, []best.Choice{better, bad()}, api.Master, decide.S1, decide.M3)
			}
		}
	}
}

// TestClassesOfChoices: a choice's Class is one number of many, whatever it is; own's says how it is decided.
func TestClassesOfChoices(t *testing.T) {
	for i, low := range edges() {
		for _, high := range edges()[i+1:] {
			self := own(high)
			heardOf := changed(heard(1), func(s *api.Set) { s.Quality.Class = low })
			better, worse := decide.S1, decide.M2
			if high == 1 || high == 2 {
				better = decide.P1
			}
			if low == 1 || low == 2 {
				worse = decide.M1
			}
			checkEach(t, "a choice's Class is less", self, []best.Choice{heardOf}, api.Master, better)
			self.Quality.Class = low
			heardOf.Set.Quality.Class = high
			checkEach(t, "own's Class is less", self, []best.Choice{heardOf}, api.Master, worse)
		}
	}
}
