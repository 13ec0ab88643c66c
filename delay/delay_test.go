package delay_test

import (
	"math"
	"testing"

	"horologe/delay"
	"horologe/span"
)

const (
	top      = 1 << 62
	second   = 1000000000
	fraction = 1 << 16
)

var none = span.Unknown()

// rightPaths stand at the edges that the chapter names, and between them.
func rightPaths() []delay.Path {
	return []delay.Path{
		{}, {Max: 1}, {Min: 1, Max: 1}, {Min: 10, Max: 20}, {Min: 10, Max: 20, Gran: 1}, {Min: 10, Max: 20, Gran: 3}, {Gran: 1}, {Gran: 5},
		{Max: 10 * second}, {Min: 10 * second, Max: 10 * second}, {Min: 10*second - 1, Max: 10 * second, Gran: second - 1},
		{Gran: second}, {Min: 5, Max: 10 * second, Gran: second}, {Min: 1 << 32, Max: 1<<32 + 7, Gran: 1 << 29},
	}
}

func wrongPaths() []delay.Path {
	return []delay.Path{
		{Min: -1}, {Min: -1, Max: 1}, {Min: -1, Max: -1}, {Min: math.MinInt}, {Min: math.MinInt, Max: math.MaxInt},
		{Min: 1}, {Min: 2, Max: 1}, {Min: 10 * second, Max: 10*second - 1}, {Max: -1}, {Max: math.MinInt},
		{Max: 10*second + 1}, {Min: 10*second + 1, Max: 10*second + 1}, {Max: top}, {Max: top + 1}, {Max: math.MaxInt}, {Min: math.MaxInt, Max: math.MaxInt},
		{Gran: -1}, {Min: 10, Max: 20, Gran: -1}, {Gran: second + 1}, {Min: 10, Max: 20, Gran: second + 1}, {Gran: 1 << 32}, {Gran: top}, {Gran: math.MinInt}, {Gran: math.MaxInt},
		// Twice and four times these go round to numbers of which nothing is to be seen.
		{Gran: top + 1}, {Gran: math.MinInt + 1}, {Gran: math.MinInt + 3},
	}
}

func TestRight(t *testing.T) {
	for _, p := range rightPaths() {
		if !p.Right() {
			t.Errorf("P13.1: %v is not right", p)
		}
	}
	for _, p := range wrongPaths() {
		if p.Right() {
			t.Errorf("P13.1: %v is right", p)
		}
	}
}

func TestByHand(t *testing.T) {
	p := delay.Path{Min: 10, Max: 20}
	q := delay.Path{Min: 10, Max: 20, Gran: 3}
	for _, x := range []struct {
		name      string
		got, want span.Span
	}{
		{"P13.1: Sync(1000, 0, 900)", delay.Sync(p, 1000, 0, 900), span.Of(110, 120)},
		{"P13.1: Req(900, 0, 1030)", delay.Req(p, 900, 0, 1030), span.Of(110, 120)},
		{"P13.1: Sync(900, 0, 1000)", delay.Sync(p, 900, 0, 1000), span.Of(-90, -80)},
		{"P13.1: Req(1030, 0, 900)", delay.Req(p, 1030, 0, 900), span.Of(-150, -140)},
		{"P13.1: Sync with Gran", delay.Sync(q, 1000, 0, 900), span.Of(104, 126)},
		{"P13.1: Req with Gran", delay.Req(q, 900, 0, 1030), span.Of(104, 126)},
		{"P13.1: Sync, held for 5", delay.Sync(p, 1000, 5*fraction, 900), span.Of(115, 125)},
		{"P13.1: Req, held for 5", delay.Req(p, 900, 5*fraction, 1030), span.Of(105, 115)},
		{"P13.1: Sync, held for a bit", delay.Sync(p, 1000, 1, 900), span.Of(110, 121)},
		{"P13.1: Req, held for a bit", delay.Req(p, 900, 1, 1030), span.Of(109, 120)},
		{"P13.1: Sync, a bit less than nothing", delay.Sync(p, 1000, -1, 900), span.Of(109, 120)},
		{"P13.1: Req, a bit less than nothing", delay.Req(p, 900, -1, 1030), span.Of(110, 121)},
		{"P13.1: Sync, from below 0", delay.Sync(p, -1000, 0, -900), span.Of(-90, -80)},
		{"P13.1: Sync, held for the greatest correction", delay.Sync(delay.Path{}, 0, math.MaxInt, 0), span.Of(1<<47-1, 1<<47)},
		{"P13.1: Sync, held for the least one", delay.Sync(delay.Path{}, 0, math.MinInt, 0), span.Of(-1<<47, -1<<47)},
		{"P13.1: Req, held for the greatest correction", delay.Req(delay.Path{}, 0, math.MaxInt, 0), span.Of(-1<<47, 1-1<<47)},
		{"P13.1: Req, held for the least one", delay.Req(delay.Path{}, 0, math.MinInt, 0), span.Of(1<<47, 1<<47)},
		{"P13.2: Both, of which each takes a part", delay.Both(p, [4]int{1000, 900, 900, 1035}, [2]int{}), span.Of(115, 120)},
		{"P13.2: Both, of which each takes the other part", delay.Both(p, [4]int{1000, 900, 900, 1025}, [2]int{}), span.Of(110, 115)},
		{"P13.2: Both at one number", delay.Both(p, [4]int{1000, 900, 900, 1040}, [2]int{}), span.Of(120, 120)},
		{"P13.2: Both with nothing in common", delay.Both(p, [4]int{1000, 900, 900, 1041}, [2]int{}), none},
		{"P13.2: Both with a correction there", delay.Both(p, [4]int{1000, 900, 900, 1035}, [2]int{3 * fraction, 0}), span.Of(115, 123)},
		{"P13.2: Both with a correction back", delay.Both(p, [4]int{1000, 900, 900, 1035}, [2]int{0, 3 * fraction}), span.Of(112, 120)},
		{"P13.2: Mean, rounded outwards", delay.Mean(p, [4]int{0, 11, 20, 30}, [2]int{}), span.Of(10, 11)},
		{"P13.2: Mean below 0, rounded outwards", delay.Mean(p, [4]int{11, 0, 30, 20}, [2]int{}), span.Of(-11, -10)},
		{"P13.2: Mean of like times", delay.Mean(p, [4]int{7, 7, 7, 7}, [2]int{}), span.Of(0, 0)},
		{"P13.2: Mean with Gran", delay.Mean(q, [4]int{0, 10, 20, 30}, [2]int{}), span.Of(4, 16)},
		{"P13.2: Mean with Gran 1", delay.Mean(delay.Path{Gran: 1}, [4]int{0, 11, 20, 30}, [2]int{}), span.Of(8, 13)},
		{"P13.2: Mean with an offset", delay.Mean(p, [4]int{1000, 910, 920, 1030}, [2]int{}), span.Of(10, 10)},
		{"P13.2: Mean with a correction there", delay.Mean(p, [4]int{0, 10, 20, 30}, [2]int{4 * fraction, 0}), span.Of(8, 8)},
		{"P13.2: Mean with a correction back", delay.Mean(p, [4]int{0, 10, 20, 30}, [2]int{0, 4 * fraction}), span.Of(8, 8)},
		{"P13.2: Mean with a bit of a correction", delay.Mean(p, [4]int{0, 10, 20, 30}, [2]int{1, 0}), span.Of(9, 10)},
		{"P13.2: Mean does not ask how long the path says", delay.Mean(p, [4]int{0, 500, 500, 1000}, [2]int{}), span.Of(500, 500)},
	} {
		if x.got != x.want {
			t.Errorf("%s: %v, not %v", x.name, x.got, x.want)
		}
	}
}

// TestWrongPaths: whatever the times are, nothing is told for a path that is not right.
func TestWrongPaths(t *testing.T) {
	for _, p := range wrongPaths() {
		for _, x := range [][4]int{{}, {1000, 900, 900, 1030}, {0, 11, 20, 30}, {top, top, top, top}, {math.MinInt, 0, 0, 0}, {0, 0, 0, math.MaxInt}} {
			for _, corr := range [][2]int{{}, {1, -1}, {5 * fraction, 5 * fraction}} {
				if s := delay.Sync(p, x[0], corr[0], x[1]); s != none {
					t.Errorf("P13.1: Sync(%v, %v, %v): %v", p, x, corr, s)
				}
				if s := delay.Req(p, x[2], corr[1], x[3]); s != none {
					t.Errorf("P13.1: Req(%v, %v, %v): %v", p, x, corr, s)
				}
				if s := delay.Both(p, x, corr); s != none {
					t.Errorf("P13.2: Both(%v, %v, %v): %v", p, x, corr, s)
				}
				if s := delay.Mean(p, x, corr); s != none {
					t.Errorf("P13.2: Mean(%v, %v, %v): %v", p, x, corr, s)
				}
			}
		}
	}
}

// notSmall are numbers that no span of bounds has.
func notSmall() []int {
	return []int{top + 1, top + 10, math.MaxInt - 1, math.MaxInt, -top - 1, math.MinInt + 1, math.MinInt}
}

func TestTimesThatAreNotSmall(t *testing.T) {
	p := delay.Path{Min: 10, Max: 20, Gran: 3}
	for _, n := range notSmall() {
		for _, other := range []int{0, 1000, -1000, n, top, -top} {
			for _, s := range []span.Span{delay.Sync(p, n, 0, other), delay.Sync(p, other, 0, n), delay.Req(p, n, 0, other), delay.Req(p, other, 0, n)} {
				if s != none {
					t.Errorf("P13.1: with the time %d and %d: %v", n, other, s)
				}
			}
		}
		for i := range 4 {
			x := [4]int{1000, 900, 900, 1035}
			x[i] = n
			if s := delay.Mean(p, x, [2]int{}); s != none {
				t.Errorf("P13.2: Mean(%v): %v", x, s)
			}
		}
	}
}

// TestBothIsTheOneThatIsKnown: as Meet has it, what one message doesn't tell takes nothing from the other one.
func TestBothIsTheOneThatIsKnown(t *testing.T) {
	p := delay.Path{Min: 10, Max: 20}
	for _, n := range notSmall() {
		for i := range 4 {
			x := [4]int{1000, 900, 900, 1035}
			x[i] = n
			want := span.Of(115, 125)
			if i >= 2 {
				want = span.Of(110, 120)
			}
			if s := delay.Both(p, x, [2]int{}); s != want {
				t.Errorf("P13.2: Both(%v): %v, not %v", x, s, want)
			}
		}
		if s := delay.Both(p, [4]int{n, 0, 0, n}, [2]int{}); s != none {
			t.Errorf("P13.2: Both of two that tell nothing, by %d: %v", n, s)
		}
	}
}

// TestBoundsInBetween has calls whose last bounds would be small, though one on the way to them is not; and some that stay small by just as much.
func TestBoundsInBetween(t *testing.T) {
	free := delay.Path{}
	long := delay.Path{Min: 10, Max: 20}
	coarse := delay.Path{Gran: 5}
	for _, x := range []struct {
		name      string
		got, want span.Span
	}{
		{"P13.1: Sync at the greatest time", delay.Sync(free, top, 0, top), span.Of(0, 0)},
		{"P13.1: Sync at the least time", delay.Sync(free, -top, 0, -top), span.Of(0, 0)},
		{"P13.1: Sync, shifted to the greatest time", delay.Sync(long, top-20, 0, top), span.Of(-10, 0)},
		{"P13.1: Sync, shifted beyond it", delay.Sync(long, top-19, 0, top), none},
		{"P13.1: Sync, widened to the greatest time", delay.Sync(coarse, top-10, 0, top), span.Of(-20, 0)},
		{"P13.1: Sync, widened beyond it", delay.Sync(coarse, top-9, 0, top), none},
		{"P13.1: Sync, widened to the least time", delay.Sync(coarse, 10-top, 0, -top), span.Of(0, 20)},
		{"P13.1: Sync, widened below it", delay.Sync(coarse, 9-top, 0, -top), none},
		{"P13.1: Sync from the greatest time, brought back by its correction", delay.Sync(long, top, -20*fraction, top), span.Of(-10, 0)},
		{"P13.1: Sync, as far apart as may be", delay.Sync(free, 0, 0, -top), span.Of(top, top)},
		{"P13.1: Sync, farther", delay.Sync(free, 1, 0, -top), none},
		{"P13.1: Sync, as far apart the other way", delay.Sync(free, 0, 0, top), span.Of(-top, -top)},
		{"P13.1: Sync, farther that way", delay.Sync(free, -1, 0, top), none},
		{"P13.1: Req at the greatest time", delay.Req(free, top, 0, top), span.Of(0, 0)},
		{"P13.1: Req at the least time", delay.Req(free, -top, 0, -top), span.Of(0, 0)},
		{"P13.1: Req, less the path to the least time", delay.Req(long, -top, 0, 20-top), span.Of(0, 10)},
		{"P13.1: Req, less the path below it", delay.Req(long, -top, 0, 19-top), none},
		{"P13.1: Req, less a correction to the greatest time", delay.Req(long, top, -10*fraction, top-10), span.Of(-20, -10)},
		{"P13.1: Req, less a correction beyond it, though the path would bring it back", delay.Req(long, top, -10*fraction, top-9), none},
		{"P13.1: Req, less a correction below the least time", delay.Req(free, 0, fraction, -top), none},
		{"P13.1: Req, widened to the greatest time", delay.Req(coarse, top, 0, top-10), span.Of(-20, 0)},
		{"P13.1: Req, widened beyond it, though its own time would bring it back", delay.Req(coarse, top, 0, top-9), none},
		{"P13.1: Req, as far apart as may be", delay.Req(free, -top, 0, 0), span.Of(top, top)},
		{"P13.1: Req, farther", delay.Req(free, -top, 0, 1), none},
		{"P13.2: Mean of the greatest times", delay.Mean(free, [4]int{0, top, top, 0}, [2]int{}), span.Of(0, 0)},
		{"P13.2: Mean, there farther than may be, though its correction would bring it back", delay.Mean(free, [4]int{-1, top, 0, 0}, [2]int{fraction, 0}), none},
		{"P13.2: Mean, back farther than may be, though there would bring it back", delay.Mean(free, [4]int{1, 0, -1, top}, [2]int{}), none},
		{"P13.2: Mean, a correction beyond what may be, though back would bring it back", delay.Mean(free, [4]int{0, top, 1, 0}, [2]int{-fraction, 0}), none},
		{"P13.2: Mean of the greatest sum", delay.Mean(free, [4]int{0, top / 2, 0, top / 2}, [2]int{}), span.Of(top/2, top/2)},
		{"P13.2: Mean of the least sum", delay.Mean(free, [4]int{top / 2, 0, top / 2, 0}, [2]int{}), span.Of(-top/2, -top/2)},
		{"P13.2: Mean of a sum that is too great, though half of it is not", delay.Mean(free, [4]int{0, top / 2, 0, top/2 + 1}, [2]int{}), none},
		{"P13.2: Mean of a sum that is too little, though half of it is not", delay.Mean(free, [4]int{top / 2, 0, top/2 + 1, 0}, [2]int{}), none},
		{"P13.2: Mean, widened to the greatest sum", delay.Mean(coarse, [4]int{0, top - 20, 0, 0}, [2]int{}), span.Of(top/2-20, top/2)},
		{"P13.2: Mean, widened beyond it", delay.Mean(coarse, [4]int{0, top - 19, 0, 0}, [2]int{}), none},
	} {
		if x.got != x.want {
			t.Errorf("%s: %v, not %v", x.name, x.got, x.want)
		}
	}
}
