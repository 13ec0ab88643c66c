package seqs_test

import (
	"math"
	"testing"

	"horologe/api"
	"horologe/seqs"
)

const maxSeq = 65535

func kinds() []int {
	return []int{api.Sync, api.DelayReq, api.FollowUp, api.DelayResp, api.Announce}
}

// notKinds are no types: all numbers of four bits that are none, and such as are one but for their higher bits.
func notKinds() []int {
	return []int{math.MinInt, math.MinInt + 11, -256, -12, -11, -9, -8, -1, 2, 3, 4, 5, 6, 7, 10, 12, 13, 14, 15, 16, 17, 24, 27, 99, 256, 264, 1 << 32, 1<<32 + 11, math.MaxInt}
}

// notSeqs are no numbers of messages, some of which are one but for their higher bits.
func notSeqs() []int {
	return []int{math.MinInt, math.MinInt + 5, -1 << 32, -65536, -65531, -32768, -1, 65536, 65537, 65541, 1 << 17, 1 << 32, 1<<32 + 5, math.MaxInt - 1, math.MaxInt}
}

// sender has a port of its own for each n, several of them at one clock.
func sender(n int) api.Port {
	return api.Port{Clock: api.Clock{1, 2, 3, 4, 5, 6, 7, byte(n / 3)}, Number: n}
}

func value(word int) [3]int { return [3]int{word, -word, word + 1} }

func checkNext(t *testing.T, b *seqs.Book, kind, want int) {
	t.Helper()
	if n := b.Next(kind); n != want {
		t.Errorf("P11.1: Next(%d): %d, not %d", kind, n, want)
	}
}

func checkLen(t *testing.T, b *seqs.Book, want int) {
	t.Helper()
	if n := b.Len(); n != want {
		t.Errorf("P11.2: Len: %d, not %d", n, want)
	}
}

func checkForget(t *testing.T, b *seqs.Book, from api.Port, want bool) {
	t.Helper()
	if was := b.Forget(from); was != want {
		t.Errorf("P11.2: Forget(%v): %v", from, was)
	}
}

func checkFresh(t *testing.T, b *seqs.Book, from api.Port, kind, seq int, want bool) {
	t.Helper()
	if is := b.Fresh(from, kind, seq); is != want {
		t.Errorf("P11.3: Fresh(%v, %d, %d): %v", from, kind, seq, is)
	}
}

func checkKeep(t *testing.T, b *seqs.Book, from api.Port, seq int, x [3]int, want bool) {
	t.Helper()
	if is := b.Keep(from, seq, x); is != want {
		t.Errorf("P11.4: Keep(%v, %d, %v): %v", from, seq, x, is)
	}
}

func checkTake(t *testing.T, b *seqs.Book, from api.Port, seq int, want [3]int) {
	t.Helper()
	if x, is := b.Take(from, seq); x != want || !is {
		t.Errorf("P11.4: Take(%v, %d): %v %v, not %v", from, seq, x, is, want)
	}
}

func checkTakeNone(t *testing.T, b *seqs.Book, from api.Port, seq int) {
	t.Helper()
	if x, is := b.Take(from, seq); x != [3]int{} || is {
		t.Errorf("P11.4: Take(%v, %d), of which there is no half: %v %v", from, seq, x, is)
	}
}

// bookOf remembers so many senders, 1 and so on, each by a Sync of the number 100 + n.
func bookOf(t *testing.T, count int) *seqs.Book {
	t.Helper()
	b := seqs.New()
	for n := 1; n <= count; n++ {
		checkFresh(t, b, sender(n), api.Sync, 100+n, true)
		checkLen(t, b, n)
	}
	return b
}

func TestByHand(t *testing.T) {
	b := seqs.New()
	checkNext(t, b, api.Sync, 0)
	checkNext(t, b, api.Sync, 1)
	checkNext(t, b, api.Announce, 0)
	checkFresh(t, b, sender(1), api.Sync, 7, true)
	checkFresh(t, b, sender(1), api.Sync, 7, false)
	checkFresh(t, b, sender(1), api.Sync, 8, true)
}

func TestNewHasNothing(t *testing.T) {
	b := seqs.New()
	if b == nil {
		t.Fatal("P11.1: New: nil")
	}
	checkLen(t, b, 0)
	for _, p := range []api.Port{{}, sender(1), {Number: maxSeq}} {
		checkForget(t, b, p, false)
		checkTakeNone(t, b, p, 0)
		checkKeep(t, b, p, 0, value(1), false)
		checkTakeNone(t, b, p, 0)
	}
	for _, kind := range kinds() {
		checkNext(t, b, kind, 0)
	}
	checkLen(t, b, 0)
}

func TestBooksAreApart(t *testing.T) {
	a, b := seqs.New(), seqs.New()
	checkNext(t, a, api.Sync, 0)
	checkNext(t, a, api.Sync, 1)
	checkFresh(t, a, sender(1), api.Sync, 9, true)
	checkKeep(t, a, sender(1), 9, value(9), true)
	checkNext(t, b, api.Sync, 0)
	checkLen(t, b, 0)
	checkTakeNone(t, b, sender(1), 9)
	checkFresh(t, b, sender(1), api.Sync, 9, true)
	checkForget(t, b, sender(1), true)
	checkLen(t, a, 1)
	checkTake(t, a, sender(1), 9, value(9))
}

func TestNextGoesRound(t *testing.T) {
	for _, kind := range kinds() {
		b := seqs.New()
		for i := range 2*65536 + 3 {
			if n := b.Next(kind); n != i%65536 {
				t.Fatalf("P11.1: Next(%d), the call %d: %d", kind, i, n)
			}
		}
	}
}

// TestNextOfEachType has types that go on at unlike paces.
func TestNextOfEachType(t *testing.T) {
	b := seqs.New()
	for i := range 50 {
		for at, kind := range kinds() {
			for j := range at + 1 {
				checkNext(t, b, kind, i*(at+1)+j)
			}
		}
	}
}

func TestNextOfNoType(t *testing.T) {
	b := seqs.New()
	for i, kind := range kinds() {
		for j := range i {
			checkNext(t, b, kind, j)
		}
	}
	for range 3 {
		for _, kind := range notKinds() {
			checkNext(t, b, kind, 0)
		}
	}
	for i, kind := range kinds() {
		checkNext(t, b, kind, i)
	}
	checkLen(t, b, 0)
}

// TestNextIsNotWhatIsHeard: what others send, or what is refused or forgotten, is no number of one's own.
func TestNextIsNotWhatIsHeard(t *testing.T) {
	b := seqs.New()
	checkNext(t, b, api.Sync, 0)
	checkFresh(t, b, sender(1), api.Sync, 500, true)
	checkFresh(t, b, api.Port{}, api.Announce, 500, true)
	checkKeep(t, b, sender(1), 500, value(1), true)
	checkNext(t, b, api.Sync, 1)
	checkNext(t, b, api.Announce, 0)
	checkForget(t, b, sender(1), true)
	checkNext(t, b, api.Sync, 2)
	checkFresh(t, b, api.Port{}, api.Sync, 1, true)
	checkLen(t, b, 1)
}

func TestLenCountsSenders(t *testing.T) {
	b := seqs.New()
	for n := 1; n <= 3; n++ {
		for _, kind := range kinds() {
			checkFresh(t, b, sender(n), kind, 5, true)
			checkFresh(t, b, sender(n), kind, 6, true)
			checkKeep(t, b, sender(n), 6, value(n), true)
			checkLen(t, b, n)
		}
	}
	checkTake(t, b, sender(2), 6, value(2))
	checkLen(t, b, 3)
}

// TestSendersAreWholePorts: clocks and numbers that differ in one place are others.
func TestSendersAreWholePorts(t *testing.T) {
	c := sender(1).Clock
	ports := []api.Port{{}, {Clock: c}, {Clock: c, Number: 1}, {Clock: c, Number: -1}, {Clock: c, Number: 65537}, {Clock: c, Number: 1<<32 + 1}, {Clock: c, Number: math.MinInt}}
	for i := range len(c) {
		x := c
		x[i] ^= 0x80
		ports = append(ports, api.Port{Clock: x, Number: 1})
	}
	b := seqs.New()
	for i, p := range ports {
		checkFresh(t, b, p, api.Sync, 1000-i, true)
		checkKeep(t, b, p, 5, value(i), true)
		checkLen(t, b, i+1)
	}
	for i, p := range ports {
		checkFresh(t, b, p, api.Sync, 1000-i, false)
		checkTake(t, b, p, 5, value(i))
		checkForget(t, b, p, true)
		checkLen(t, b, len(ports)-i-1)
	}
}

func TestForget(t *testing.T) {
	b := bookOf(t, 3)
	for _, p := range []api.Port{{}, sender(4), {Clock: sender(2).Clock, Number: -2}, {Clock: sender(2).Clock, Number: 2 + 1<<32}} {
		checkForget(t, b, p, false)
		checkLen(t, b, 3)
	}
	checkForget(t, b, sender(2), true)
	checkForget(t, b, sender(2), false)
	checkLen(t, b, 2)
	checkFresh(t, b, sender(1), api.Sync, 101, false)
	checkFresh(t, b, sender(3), api.Sync, 103, false)
	checkKeep(t, b, sender(2), 102, value(2), false)
}

// TestForgetForgetsAll: behind it there is no last number of any type, and no half.
func TestForgetForgetsAll(t *testing.T) {
	b := bookOf(t, 2)
	for _, kind := range kinds() {
		checkFresh(t, b, sender(1), kind, 5000, true)
		checkFresh(t, b, sender(2), kind, 5000, true)
	}
	checkKeep(t, b, sender(1), 5000, value(1), true)
	checkKeep(t, b, sender(2), 5000, value(2), true)
	checkForget(t, b, sender(1), true)
	checkTakeNone(t, b, sender(1), 5000)
	for _, kind := range kinds() {
		checkFresh(t, b, sender(1), kind, 5000, true)
		checkTakeNone(t, b, sender(1), 5000)
		checkFresh(t, b, sender(2), kind, 5000, false)
	}
	checkTake(t, b, sender(2), 5000, value(2))
	checkLen(t, b, 2)
}
