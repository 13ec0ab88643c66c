package seqs_test

import (
	"math"
	"testing"

	"horologe/api"
	"horologe/seqs"
)

func edges() []int { return []int{0, 1, 5, 32767, 32768, 65534, maxSeq} }

func TestKeepAndTake(t *testing.T) {
	for _, seq := range edges() {
		for _, x := range [][3]int{{}, {1, 2, 3}, {math.MinInt, -1, math.MaxInt}} {
			b := bookOf(t, 1)
			checkKeep(t, b, sender(1), seq, x, true)
			checkTake(t, b, sender(1), seq, x)
			checkTakeNone(t, b, sender(1), seq)
		}
	}
}

func TestKeepOfWrongNumbers(t *testing.T) {
	for _, seq := range notSeqs() {
		b := bookOf(t, 1)
		checkKeep(t, b, sender(1), seq, value(1), false)
		checkTakeNone(t, b, sender(1), seq)
		checkTakeNone(t, b, sender(1), seq&maxSeq)
		checkKeep(t, b, sender(1), 5, value(5), true)
		checkKeep(t, b, sender(1), seq, value(1), false)
		checkTakeNone(t, b, sender(1), seq)
		checkTake(t, b, sender(1), 5, value(5))
	}
}

func TestKeepOfWhoIsNotRemembered(t *testing.T) {
	b := bookOf(t, 1)
	for _, p := range []api.Port{{}, sender(2), {Clock: sender(1).Clock, Number: 3}} {
		checkKeep(t, b, p, 5, value(5), false)
		checkTakeNone(t, b, p, 5)
		checkLen(t, b, 1)
		checkForget(t, b, p, false)
	}
	checkTakeNone(t, b, sender(1), 5)
	checkFresh(t, b, sender(2), api.Sync, 5, true)
	checkTakeNone(t, b, sender(2), 5)
}

func TestKeepInThePlaceOfAnother(t *testing.T) {
	b := bookOf(t, 1)
	checkKeep(t, b, sender(1), 5, value(1), true)
	checkKeep(t, b, sender(1), 6, value(2), true)
	checkTakeNone(t, b, sender(1), 5)
	checkTake(t, b, sender(1), 6, value(2))
	checkTakeNone(t, b, sender(1), 6)
	checkTakeNone(t, b, sender(1), 5)
	checkKeep(t, b, sender(1), 5, value(3), true)
	checkKeep(t, b, sender(1), 5, value(4), true)
	checkTake(t, b, sender(1), 5, value(4))
	checkTakeNone(t, b, sender(1), 5)
	checkKeep(t, b, sender(1), 5, value(5), true)
	checkTake(t, b, sender(1), 5, value(5))
}

// TestKeepAsksNoOtherNumber: a half's number may be any, whatever was fresh.
func TestKeepAsksNoOtherNumber(t *testing.T) {
	b := bookOf(t, 1)
	for _, seq := range append(edges(), 100, 101, 102) {
		checkKeep(t, b, sender(1), seq, value(seq), true)
		checkTake(t, b, sender(1), seq, value(seq))
	}
	checkFresh(t, b, sender(1), api.Sync, 101, false)
	checkFresh(t, b, sender(1), api.Sync, 102, true)
}

func TestTakeOfAnotherNumber(t *testing.T) {
	for _, seq := range edges() {
		b := bookOf(t, 1)
		checkKeep(t, b, sender(1), seq, value(seq), true)
		for _, other := range append(append(edges(), notSeqs()...), seq+65536, seq-65536, seq+1<<32, -seq-1) {
			if other != seq {
				checkTakeNone(t, b, sender(1), other)
			}
		}
		checkTake(t, b, sender(1), seq, value(seq))
	}
}

// TestTakeOfNoHalf asks 0 too, which is not the number of a half that there is not.
func TestTakeOfNoHalf(t *testing.T) {
	b := bookOf(t, 2)
	checkKeep(t, b, sender(2), 5, value(5), true)
	checkTake(t, b, sender(2), 5, value(5))
	for _, seq := range append(edges(), notSeqs()...) {
		checkTakeNone(t, b, sender(1), seq)
		checkTakeNone(t, b, sender(2), seq)
		checkTakeNone(t, b, sender(3), seq)
	}
	checkLen(t, b, 2)
	checkForget(t, b, sender(3), false)
}

func TestHalvesOfEachSender(t *testing.T) {
	b := bookOf(t, api.MaxSenders)
	for n := 1; n <= api.MaxSenders; n++ {
		checkKeep(t, b, sender(n), 5, value(n), true)
	}
	checkKeep(t, b, sender(3), 6, value(30), true)
	checkForget(t, b, sender(4), true)
	for n := api.MaxSenders; n >= 1; n-- {
		switch n {
		case 3:
			checkTakeNone(t, b, sender(n), 5)
			checkTake(t, b, sender(n), 6, value(30))
		case 4:
			checkTakeNone(t, b, sender(n), 5)
		default:
			checkTake(t, b, sender(n), 5, value(n))
		}
	}
}

// TestFreshLeavesTheHalf: numbers that come, or are refused, take no half.
func TestFreshLeavesTheHalf(t *testing.T) {
	b := bookOf(t, 1)
	checkKeep(t, b, sender(1), 101, value(1), true)
	for _, kind := range kinds() {
		checkFresh(t, b, sender(1), kind, 102, true)
		checkFresh(t, b, sender(1), kind, 101, false)
		checkFresh(t, b, sender(2), kind, 101, true)
	}
	checkFresh(t, b, sender(1), 2, 103, false)
	checkNext(t, b, api.Sync, 0)
	checkTakeNone(t, b, sender(2), 101)
	checkTake(t, b, sender(1), 101, value(1))
}

// TestTakeLeavesTheNumbers: who has no half any more is remembered still.
func TestTakeLeavesTheNumbers(t *testing.T) {
	b := bookOf(t, 1)
	checkKeep(t, b, sender(1), 200, value(1), true)
	checkTake(t, b, sender(1), 200, value(1))
	checkLen(t, b, 1)
	checkFresh(t, b, sender(1), api.Sync, 101, false)
	checkForget(t, b, sender(1), true)
}

func TestWhatIsKeptStays(t *testing.T) {
	b := seqs.New()
	checkFresh(t, b, sender(1), api.Sync, 5, true)
	x := value(7)
	checkKeep(t, b, sender(1), 5, x, true)
	x[0], x[1], x[2] = 0, 0, 0
	checkTake(t, b, sender(1), 5, value(7))
}
