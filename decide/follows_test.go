package decide_test

import (
	"slices"
	"testing"

	"horologe/api"
	"horologe/best"
	"horologe/decide"
)

func countOf(codes []int, code int) int {
	n := 0
	for _, c := range codes {
		if c == code {
			n++
		}
	}
	return n
}

func TestAtMostOnePortFollows(t *testing.T) {
	take := taker(13)
	follow, lead := 0, 0
	for range 20000 {
		self, all, l := mixedCase(take)
		codes := decide.All(self, all, l)
		s1, m2 := countOf(codes, decide.S1), countOf(codes, decide.M2)
		if s1 > 1 || s1 > 0 && m2 > 0 {
			t.Errorf("P10.3: All(%+v, %+v, %v): %v", self, all, l, codes)
		}
		if class := self.Quality.Class; s1 > 0 && class >= 1 && class <= 127 {
			t.Errorf("P10.3: a clock of Class %d follows: %v", class, codes)
		}
		follow, lead = follow+min(s1, 1), lead+min(m2, 1)
	}
	if follow < 500 || lead < 500 {
		t.Errorf("a port followed %d times alone, or none did %d times alone", follow, lead)
	}
}

// TestAtMostOnePortFollowsWhateverItsState asks Port of each port in all states, so that no port is left out for its state.
func TestAtMostOnePortFollowsWhateverItsState(t *testing.T) {
	for _, class := range slices.Concat(leaders(), followers()) {
		for _, all := range [][]best.Choice{
			{good(), good(), good()},
			{bad(), good(), changed(good(), sender(3)), {}},
			{none(), bad()},
			append(round(), good()),
		} {
			follows, leads := map[int]bool{}, false
			for k := range all {
				for _, state := range states() {
					code := decide.Port(own(class), all, k, state)
					leads = leads || code == decide.M2
					if code == decide.S1 {
						follows[k] = true
					}
				}
			}
			if len(follows) > 1 || leads && len(follows) > 0 || len(follows) > 0 && class >= 1 && class <= 127 {
				t.Errorf("P10.3: a clock of Class %d follows at %v: %+v", class, follows, all)
			}
		}
	}
}

func TestWhereOwnIsBetterThanAll(t *testing.T) {
	take := taker(17)
	masters := 0
	for range 4000 {
		self, all, l := mixedCase(take)
		self.Priority1 = -1
		for _, c := range all {
			// Of one Grand the way tells it, so that own is made unlike all.
			if c.Set.Grand == self.Grand {
				self.Grand = api.Clock{}
			}
		}
		for _, code := range decide.All(self, all, l) {
			if code != decide.None && code != decide.M1 && code != decide.M2 {
				t.Errorf("P10.3: own is better than all, but a port is to be %d: %+v, %+v", code, self, all)
			}
			masters += min(code, 1)
		}
	}
	if masters < 1000 {
		t.Errorf("%d ports were to be masters", masters)
	}
}

// TestNoPortOfAGoodClassFollows: the Class alone says so, even where all that is heard is better.
func TestNoPortOfAGoodClassFollows(t *testing.T) {
	take := taker(19)
	for i := range 127 {
		for range 40 {
			self, all, l := mixedCase(take)
			self.Quality.Class = 1 + i
			self.Priority1 += take(2) * 1000
			if codes := decide.All(self, all, l); countOf(codes, decide.S1) > 0 {
				t.Errorf("P10.3: a clock of Class %d follows: %v", 1+i, codes)
			}
		}
	}
}

// TestClocksThatHearEachOther: of three clocks at one segment the least one leads, and each other one follows it.
func TestClocksThatHearEachOther(t *testing.T) {
	var l []api.Set
	for i := range 3 {
		l = append(l, best.Own(api.Clock{byte(1 + i)}, api.Quality{Class: 248}, 128, 128))
	}
	for i, self := range l {
		var others []api.Set
		for k, s := range l {
			if k != i {
				s.Sender.Number = 1
				others = append(others, s)
			}
		}
		heardNow := best.Port(others, api.Port{Clock: self.Grand, Number: 1})
		want := []int{decide.S1, decide.M3}
		if i == 0 {
			want = []int{decide.M2, decide.M2}
		}
		checkEach(t, "at one segment", self, []best.Choice{heardNow, {}}, api.PreMaster, want...)
	}
}

func TestTheSameIsToldAgain(t *testing.T) {
	take := taker(23)
	for range 500 {
		self, all, l := mixedCase(take)
		codes := decide.All(self, all, l)
		if !slices.Equal(codes, decide.All(self, slices.Clone(all), slices.Clone(l))) || decide.Masters(codes) != decide.Masters(codes) {
			t.Errorf("R7: %+v is told otherwise the second time: %+v", self, all)
		}
		for k := range all {
			if decide.Port(self, all, k, api.Slave) != decide.Port(self, all, k, api.Slave) {
				t.Errorf("R7: Port %d of %+v is told otherwise the second time: %+v", k, self, all)
			}
		}
	}
}
