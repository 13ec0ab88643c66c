package head_test

import (
	"math"
	"testing"

	"horologe/head"
)

const round = 0x10000

// noSeqs are no numbers of messages, though the lowest two bytes of some are those of one.
func noSeqs() []int {
	return []int{math.MinInt, math.MinInt + 1, -1 << 32, -round - 1, -round, -round + 1, -0x8000, -2, -1, round, round + 1, round + 0x7fff, 2*round - 1, 1 << 32, 1<<32 + 5, math.MaxInt - 1, math.MaxInt}
}

func edgeSeqs() []int {
	return []int{0, 1, 2, 0xff, 0x100, 0x7ffe, 0x7fff, 0x8000, 0x8001, 0xfffe, 0xffff}
}

func TestNext(t *testing.T) {
	for n := range round - 1 {
		if head.Next(n) != n+1 {
			t.Errorf("P5.3: Next(%x): %x", n, head.Next(n))
		}
	}
	for _, n := range append(noSeqs(), 0xffff) {
		if head.Next(n) != 0 {
			t.Errorf("P5.3: Next(%x): %x", n, head.Next(n))
		}
	}
}

func TestBehindByHand(t *testing.T) {
	for _, x := range []struct {
		a, b int
		want bool
	}{
		{1, 0, true},
		{0, 1, false},
		{5, 5, false},
		{0, 0, false},
		{0xffff, 0xffff, false},
		{0, 0xffff, true},
		{0xffff, 0, false},
		{0x7fff, 0, true},
		{0, 0x7fff, false},
		{0x8000, 0, false},
		{0, 0x8000, false},
		{0x8001, 0, false},
		{0, 0x8001, true},
		{0x7ffe, 0xffff, true},
		{0x7fff, 0xffff, false},
		{0x1234, 0x9233, false},
		{0x1234, 0x9235, true},
		{0x1234, 0x9234, false},
	} {
		if head.Behind(x.a, x.b) != x.want {
			t.Errorf("P5.3: Behind(%x, %x): %v", x.a, x.b, !x.want)
		}
	}
}

// TestBehindAsNumbersGoRound steps on from b by Next: the first 7fff numbers are behind it, and no others.
func TestBehindAsNumbersGoRound(t *testing.T) {
	for _, b := range edgeSeqs() {
		a := b
		for steps := range round {
			if head.Behind(a, b) != (1 <= steps && steps <= 0x7fff) {
				t.Errorf("P5.3: Behind(%x, %x): %v, %x steps on", a, b, head.Behind(a, b), steps)
			}
			a = head.Next(a)
		}
		if a != b {
			t.Errorf("P5.3: %x, when all numbers from %x on are gone through", a, b)
		}
	}
}

func TestBehindOfNoNumbers(t *testing.T) {
	for _, n := range noSeqs() {
		for _, m := range append(edgeSeqs(), noSeqs()...) {
			if head.Behind(n, m) || head.Behind(m, n) {
				t.Errorf("P5.3: Behind of %x and %x: %v, %v", n, m, head.Behind(n, m), head.Behind(m, n))
			}
		}
	}
}
