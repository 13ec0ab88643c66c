package decide_test

import (
	"math"
	"slices"
	"testing"

	"horologe/api"
	"horologe/best"
	"horologe/decide"
)

func TestAllOfNoPorts(t *testing.T) {
	for _, class := range []int{6, 248} {
		for _, l := range [][]int{nil, {}, {api.Master}, states()} {
			checkAll(t, "no ports", own(class), nil, l)
			checkAll(t, "no ports", own(class), []best.Choice{}, l)
			checkAll(t, "no ports", own(class), []best.Choice{good()}[:0], l)
		}
	}
}

func TestAllInUnlikeStates(t *testing.T) {
	all := []best.Choice{bad(), {}, good(), none(), bad(), bad()}
	l := []int{api.Listening, api.Listening, api.Uncalibrated, api.Passive, api.Faulty, api.Master}
	checkAll(t, "unlike states", own(248), all, l, decide.M3, decide.None, decide.S1, decide.M3, decide.None, decide.M3)
	checkAll(t, "unlike states", own(6), all, l, decide.M1, decide.None, decide.P1, decide.M1, decide.None, decide.M1)
	l = []int{api.Initializing, api.PreMaster, api.Slave, api.Disabled, api.Master, 99}
	checkAll(t, "unlike states", own(248), all, l, decide.None, decide.M3, decide.S1, decide.None, decide.M3, decide.M3)
	checkAll(t, "unlike states", own(6), all, l, decide.None, decide.M1, decide.P1, decide.None, decide.M1, decide.M1)
}

// TestAllOfPortsWithoutAState: they are Disabled, even where there are some states in the room behind the list.
func TestAllOfPortsWithoutAState(t *testing.T) {
	all := []best.Choice{bad(), good(), bad(), bad()}
	for _, class := range []int{6, 248} {
		whole := map[int][]int{
			6:   {decide.M1, decide.P1, decide.M1, decide.M1},
			248: {decide.M3, decide.S1, decide.M3, decide.M3},
		}[class]
		l := slices.Repeat([]int{api.Master}, 9)
		for count := range l {
			want := slices.Clone(whole)
			for k := count; k < len(want); k++ {
				want[k] = decide.None
			}
			checkAll(t, "states for some", own(class), all, l[:count], want...)
			checkAll(t, "states for some", own(class), all, slices.Clone(l[:count]), want...)
		}
		checkAll(t, "no states", own(class), all, nil, decide.None, decide.None, decide.None, decide.None)
	}
}

// TestAllOfMoreStatesThanPorts: those behind the last port's are nobody's.
func TestAllOfMoreStatesThanPorts(t *testing.T) {
	for _, state := range states() {
		checkAll(t, "more states", own(248), []best.Choice{good(), bad()}, []int{api.Slave, api.Master, state, state}, decide.S1, decide.M3)
		checkAll(t, "more states", own(6), []best.Choice{good(), bad()}, []int{api.Slave, api.Master, state, state}, decide.P1, decide.M1)
	}
}

func TestAllIsPortOfEachPort(t *testing.T) {
	take := taker(7)
	count := map[int]int{}
	for range 20000 {
		self, all, l := mixedCase(take)
		var want []int
		for k := range all {
			state := api.Disabled
			if k < len(l) {
				state = l[k]
			}
			code := meant(self, all, k, state)
			checkPort(t, "mixed", self, all, k, state, code)
			want = append(want, code)
			count[code]++
		}
		checkAll(t, "mixed", self, all, l, want...)
	}
	for code := decide.None; code <= decide.P2; code++ {
		if count[code] < 500 {
			t.Errorf("%d was meant %d times alone", code, count[code])
		}
	}
}

func TestMastersOfEachCode(t *testing.T) {
	for _, x := range []struct {
		want  int
		codes []int
	}{
		{0, nil},
		{0, []int{}},
		{0, []int{decide.None}},
		{1, []int{decide.M1}},
		{1, []int{decide.M2}},
		{1, []int{decide.M3}},
		{0, []int{decide.S1}},
		{0, []int{decide.P1}},
		{0, []int{decide.P2}},
		{3, []int{decide.None, decide.M1, decide.M2, decide.M3, decide.S1, decide.P1, decide.P2}},
		{4, []int{decide.M3, decide.M3, decide.S1, decide.M3, decide.None, decide.M3}},
		{0, []int{decide.M1, decide.M2}[:0]},
		{0, []int{-1, -2, -3, 7, 8, 255, 256 + decide.M1, 1<<32 + decide.M2, math.MinInt, math.MinInt + decide.M3, math.MaxInt}},
		{2, []int{math.MaxInt, decide.M1, -1, decide.M3, math.MinInt}},
		{300, slices.Repeat([]int{decide.M2, decide.S1, decide.M1}, 150)},
	} {
		if n := decide.Masters(x.codes); n != x.want {
			t.Errorf("P10.2: Masters(%v): %d, not %d", x.codes, n, x.want)
		}
	}
}

func TestMastersOfAll(t *testing.T) {
	codes := decide.All(own(248), []best.Choice{bad(), good(), changed(good(), sender(3)), {}}, []int{api.Master, api.Slave, api.Passive, api.Listening})
	if n := decide.Masters(codes); n != 1 {
		t.Errorf("P10.2: Masters(%v): %d", codes, n)
	}
}

func TestWhatIsHandedInStays(t *testing.T) {
	take := taker(11)
	for range 300 {
		self, all, l := mixedCase(take)
		all, l = append(all, good(), bad()), append(l, api.Master, api.Slave)
		allWhole, lWhole := slices.Clone(all), slices.Clone(l)
		decide.All(self, all[:len(all)-1], l[:len(l)-1])
		decide.Port(self, all[:len(all)-1], 0, api.Master)
		if !slices.Equal(all, allWhole) || !slices.Equal(l, lWhole) {
			t.Errorf("R5: All or Port changed what it was given: %+v, %v", all, l)
		}
	}
	codes := []int{decide.M1, decide.S1, -7, decide.M3}
	decide.Masters(codes[:3])
	if !slices.Equal(codes, []int{decide.M1, decide.S1, -7, decide.M3}) {
		t.Errorf("R5: Masters changed what it was given: %v", codes)
	}
}

func TestWhatIsToldIsTheCallersOwn(t *testing.T) {
	all, l := []best.Choice{good(), bad()}, []int{api.Slave, api.Master}
	one, two := decide.All(own(248), all, l), decide.All(own(248), all, l)
	one[0], one[1] = 77, 78
	if !slices.Equal(two, []int{decide.S1, decide.M3}) || !slices.Equal(l, []int{api.Slave, api.Master}) {
		t.Errorf("R6: writing into what All told changed %v, or %v", two, l)
	}
	clear(all)
	clear(l)
	if !slices.Equal(two, []int{decide.S1, decide.M3}) {
		t.Errorf("R6: what All told changed with what it was given: %v", two)
	}
	checkAll(t, "the same call again", own(248), []best.Choice{good(), bad()}, []int{api.Slave, api.Master}, decide.S1, decide.M3)
}
