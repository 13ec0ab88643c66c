package rank_test

import (
	"bytes"
	"math"
	"math/big"
	"testing"

	"horologe/api"
	"horologe/rank"
)

// plain is a set with nothing that is at an edge.
func plain() api.Set {
	return api.Set{
		Priority1: 128,
		Priority2: 127,
		Quality:   api.Quality{Class: 248, Accuracy: 33, Variance: 0x4e5d},
		Grand:     api.Clock{5, 5, 5, 5, 5, 5, 5, 5},
		Steps:     3,
		Sender:    api.Port{Clock: api.Clock{7, 7, 7, 7, 7, 7, 7, 7}, Number: 2},
		Receiver:  api.Port{Clock: api.Clock{9, 9, 9, 9, 9, 9, 9, 9}, Number: 4},
	}
}

func with(changes ...func(s *api.Set)) api.Set {
	s := plain()
	for _, f := range changes {
		f(&s)
	}
	return s
}

type part struct {
	name string
	set  func(s *api.Set, n int)
}

// graded are a grandmaster's numbers, in the chapter's order; its clock comes behind them.
func graded() []part {
	return []part{
		{"Priority1", func(s *api.Set, n int) { s.Priority1 = n }},
		{"Class", func(s *api.Set, n int) { s.Quality.Class = n }},
		{"Accuracy", func(s *api.Set, n int) { s.Quality.Accuracy = n }},
		{"Variance", func(s *api.Set, n int) { s.Quality.Variance = n }},
		{"Priority2", func(s *api.Set, n int) { s.Priority2 = n }},
	}
}

// gradedAndClock has small numbers alone for the clock: they become its first byte.
func gradedAndClock() []part {
	return append(graded(), part{"Grand", func(s *api.Set, n int) { s.Grand = api.Clock{byte(n)} }})
}

// edges rise: wrong numbers are among them, and the least and the greatest ones that there are.
func edges() []int {
	return []int{math.MinInt, math.MinInt + 1, -1 << 32, -65536, -256, -2, -1, 0, 1, 2, 127, 128, 254, 255, 256, 65535, 65536, 1 << 32, math.MaxInt - 1, math.MaxInt}
}

// mixed are numbers made by a rule, alike at every run.
func mixed(count int) []uint64 {
	l := make([]uint64, count)
	x := uint64(88172645463325252)
	for i := range l {
		x ^= x << 13
		x ^= x >> 7
		x ^= x << 17
		l[i] = x
	}
	return l
}

// mixedSets have few numbers, so that many are alike in much; some of these are at the edges.
func mixedSets(count int) []api.Set {
	edge := []int{-1, 0, 1, 2, math.MaxInt, math.MaxInt - 1, math.MinInt, math.MinInt + 1}
	var l []api.Set
	for _, x := range mixed(count) {
		take := func(n uint64) uint64 {
			x = x*6364136223846793005 + 1442695040888963407
			return x >> 40 % n
		}
		number := func() int {
			if take(3) == 0 {
				return edge[take(8)]
			}
			return 1
		}
		clock := func() api.Clock { return api.Clock{1, 7: byte(take(3))} }
		l = append(l, api.Set{
			Priority1: number(),
			Priority2: number(),
			Quality:   api.Quality{Class: number(), Accuracy: number(), Variance: number()},
			Grand:     clock(),
			Steps:     edge[take(8)],
			Sender:    api.Port{Clock: clock(), Number: int(take(2))},
			Receiver:  api.Port{Clock: clock(), Number: number()},
		})
	}
	return l
}

func exact(n int) *big.Int { return big.NewInt(int64(n)) }

func sign(i, j int) int { return exact(i).Cmp(exact(j)) }

// meantGrand is what Grand is to tell, found by other means than the program's.
func meantGrand(a, b api.Set) int {
	row := func(s api.Set) []*big.Int {
		return []*big.Int{exact(s.Priority1), exact(s.Quality.Class), exact(s.Quality.Accuracy), exact(s.Quality.Variance), exact(s.Priority2), new(big.Int).SetBytes(s.Grand[:])}
	}
	of := row(b)
	for i, n := range row(a) {
		if n.Cmp(of[i]) != 0 {
			return n.Cmp(of[i])
		}
	}
	return 0
}

// meantCompare goes by how many steps a is beyond b, as an exact number.
func meantCompare(a, b api.Set) int {
	if !bytes.Equal(a.Grand[:], b.Grand[:]) {
		return map[int]int{-1: 1, 1: 3}[meantGrand(a, b)]
	}
	beyond := new(big.Int).Sub(exact(a.Steps), exact(b.Steps))
	hears := func(s api.Set) int { return bytes.Compare(s.Receiver.Clock[:], s.Sender.Clock[:]) }
	switch {
	case beyond.Cmp(exact(1)) > 0:
		return 3
	case beyond.Cmp(exact(-1)) < 0:
		return 1
	case beyond.Sign() > 0:
		return map[int]int{-1: 3, 1: 4, 0: 5}[hears(a)]
	case beyond.Sign() < 0:
		return map[int]int{-1: 1, 1: 2, 0: 5}[hears(b)]
	}
	for _, n := range []int{
		bytes.Compare(a.Sender.Clock[:], b.Sender.Clock[:]),
		sign(a.Sender.Number, b.Sender.Number),
		sign(a.Receiver.Number, b.Receiver.Number),
	} {
		if n != 0 {
			return map[int]int{-1: 2, 1: 4}[n]
		}
	}
	return 6
}

func checkGrand(t *testing.T, what string, a, b api.Set, want int) {
	t.Helper()
	if n := rank.Grand(a, b); n != want {
		t.Errorf("P7.1: %s: Grand(%+v, %+v): %d, not %d", what, a, b, n, want)
	}
	if n := rank.Grand(b, a); n != -want {
		t.Errorf("P7.1: %s, turned: Grand(%+v, %+v): %d, not %d", what, b, a, n, -want)
	}
}

func TestGrandOfTheSame(t *testing.T) {
	checkGrand(t, "the same", plain(), plain(), 0)
	checkGrand(t, "zeros", api.Set{}, api.Set{}, 0)
}

// TestGrandAsksEachNumber has sets that are unlike in one alone, by one and by more, and at all edges.
func TestGrandAsksEachNumber(t *testing.T) {
	for _, p := range graded() {
		for i, m := range edges() {
			for j, n := range edges() {
				a, b := plain(), plain()
				p.set(&a, m)
				p.set(&b, n)
				checkGrand(t, p.name, a, b, sign(i, j))
			}
		}
	}
}

func TestGrandAsksEachByteOfTheClock(t *testing.T) {
	for i := range 8 {
		a, b := plain(), plain()
		a.Grand[i], b.Grand[i] = 0x7f, 0x80
		checkGrand(t, "Grand", a, b, -1)
		// What comes behind says otherwise.
		for j := i + 1; j < 8; j++ {
			a.Grand[j], b.Grand[j] = 0xff, 0
		}
		checkGrand(t, "Grand", a, b, -1)
	}
	checkGrand(t, "Grand", with(func(s *api.Set) { s.Grand = api.Clock{} }), with(func(s *api.Set) { s.Grand = api.Clock{7: 1} }), -1)
}

// TestGrandAsksTheFirstUnlikeOne has two that say otherwise, and one against all behind it.
func TestGrandAsksTheFirstUnlikeOne(t *testing.T) {
	l := gradedAndClock()
	for i, first := range l {
		a, b := plain(), plain()
		first.set(&a, 1)
		first.set(&b, 2)
		for _, other := range l[i+1:] {
			c, d := a, b
			other.set(&c, 200)
			other.set(&d, 100)
			checkGrand(t, first.name+" and "+other.name, c, d, -1)
		}
		for _, other := range l[i+1:] {
			other.set(&a, 200)
			other.set(&b, 100)
		}
		checkGrand(t, first.name+" and all behind it", a, b, -1)
	}
}

func TestGrandAsksNothingElse(t *testing.T) {
	for i, f := range []func(s *api.Set){
		func(s *api.Set) { s.Steps = 0 },
		func(s *api.Set) { s.Steps = math.MaxInt },
		func(s *api.Set) { s.Sender = api.Port{} },
		func(s *api.Set) { s.Receiver = api.Port{} },
		func(s *api.Set) { s.Sender.Number++ },
		func(s *api.Set) { s.Receiver.Number++ },
		func(s *api.Set) { s.Sender, s.Receiver = s.Receiver, s.Sender },
	} {
		if n := rank.Grand(plain(), with(f)); n != 0 {
			t.Errorf("P7.1: unlike in what is not a grandmaster's (%d): %d", i, n)
		}
		better := with(f, func(s *api.Set) { s.Priority2 = 0 })
		checkGrand(t, "a lesser Priority2", better, plain(), -1)
	}
}

func TestGrandOfMixedSets(t *testing.T) {
	l := mixedSets(400)
	for _, a := range l {
		for _, b := range l {
			if n := rank.Grand(a, b); n != meantGrand(a, b) {
				t.Errorf("P7.1: Grand(%+v, %+v): %d, not %d", a, b, n, meantGrand(a, b))
			}
		}
	}
}
