package seqs_test

import (
	"testing"

	"horologe/api"
	"horologe/seqs"
)

func TestFirstIsFresh(t *testing.T) {
	for _, kind := range kinds() {
		for _, seq := range []int{0, 1, 32767, 32768, 65534, maxSeq} {
			b := seqs.New()
			checkFresh(t, b, sender(1), kind, seq, true)
			checkFresh(t, b, sender(1), kind, seq, false)
			checkLen(t, b, 1)
		}
	}
}

// TestFreshAtAllDistances asks of a number all others.
func TestFreshAtAllDistances(t *testing.T) {
	for _, last := range []int{0, 1, 32767, 32768, 65534, maxSeq} {
		b := seqs.New()
		for gone := range 65536 {
			b.Forget(sender(1))
			b.Fresh(sender(1), api.Sync, last)
			seq := (last + gone) % 65536
			if is := b.Fresh(sender(1), api.Sync, seq); is != (gone >= 1 && gone <= 32767) {
				t.Fatalf("P11.3: Fresh of %d behind %d: %v", seq, last, is)
			}
		}
	}
}

// TestFreshIsTheLastNow: what was fresh is what others are held against, what was not is nothing.
func TestFreshIsTheLastNow(t *testing.T) {
	b := seqs.New()
	for i, x := range []struct {
		seq  int
		want bool
	}{
		{40000, true}, {40000, false}, {39999, false}, {7233, false}, {40001, true}, {40000, false},
		{7232, true}, {40001, false}, {7232, false}, {39999, true}, {39998, false}, {39999, false},
		{65535, true}, {0, true}, {65535, false}, {32768, false}, {32767, true}, {0, false}, {65534, true}, {0, true},
	} {
		if is := b.Fresh(sender(1), api.Sync, x.seq); is != x.want {
			t.Errorf("P11.3: the call %d, Fresh of %d: %v", i, x.seq, is)
		}
	}
}

func TestFreshOfEachType(t *testing.T) {
	b := seqs.New()
	for i, kind := range kinds() {
		checkFresh(t, b, sender(1), kind, 1000-i, true)
		checkFresh(t, b, sender(1), kind, 1000-i, false)
	}
	for i, kind := range kinds() {
		checkFresh(t, b, sender(1), kind, 1000-i, false)
		checkFresh(t, b, sender(1), kind, 999-i, false)
		checkFresh(t, b, sender(1), kind, 1001-i, true)
	}
	checkLen(t, b, 1)
}

func TestFreshOfEachSender(t *testing.T) {
	b := bookOf(t, 5)
	for n := 1; n <= 5; n++ {
		checkFresh(t, b, sender(n), api.Sync, 100+n, false)
		checkFresh(t, b, sender(n), api.Sync, 99+n, false)
	}
	checkFresh(t, b, sender(3), api.Sync, 20000, true)
	for n := 1; n <= 5; n++ {
		checkFresh(t, b, sender(n), api.Sync, 101+n, n != 3)
	}
}

func TestFreshOfWrongNumbers(t *testing.T) {
	b := bookOf(t, 1)
	for _, seq := range notSeqs() {
		for _, kind := range kinds() {
			checkFresh(t, b, sender(1), kind, seq, false)
			checkFresh(t, b, sender(2), kind, seq, false)
			checkLen(t, b, 1)
		}
	}
	checkNothingDone(t, b)
}

func TestFreshOfNoType(t *testing.T) {
	b := bookOf(t, 1)
	for _, kind := range notKinds() {
		for _, seq := range []int{0, 5, 101, 102, maxSeq, -1, 65536} {
			checkFresh(t, b, sender(1), kind, seq, false)
			checkFresh(t, b, sender(2), kind, seq, false)
			checkLen(t, b, 1)
		}
	}
	checkNothingDone(t, b)
}

// checkNothingDone: of a book of one, all is as at first.
func checkNothingDone(t *testing.T, b *seqs.Book) {
	t.Helper()
	checkLen(t, b, 1)
	checkForget(t, b, sender(2), false)
	checkFresh(t, b, sender(1), api.Sync, 101, false)
	checkFresh(t, b, sender(1), api.Sync, 102, true)
	for _, kind := range kinds() {
		if kind != api.Sync {
			checkFresh(t, b, sender(1), kind, 0, true)
		}
	}
}

func TestFreshOfMaxSenders(t *testing.T) {
	b := bookOf(t, api.MaxSenders)
	for _, kind := range kinds() {
		for _, seq := range []int{0, 117, maxSeq} {
			checkFresh(t, b, sender(17), kind, seq, false)
			checkFresh(t, b, api.Port{}, kind, seq, false)
			checkLen(t, b, 16)
		}
	}
	checkKeep(t, b, sender(17), 0, value(1), false)
	checkForget(t, b, sender(17), false)
	for n := 1; n <= api.MaxSenders; n++ {
		checkFresh(t, b, sender(n), api.Sync, 100+n, false)
		checkFresh(t, b, sender(n), api.Sync, 101+n, true)
		checkFresh(t, b, sender(n), api.Announce, 3, true)
	}
	checkLen(t, b, 16)
}

// TestFreshBehindForget: one that is forgotten makes room for one more.
func TestFreshBehindForget(t *testing.T) {
	for n := 1; n <= api.MaxSenders; n++ {
		b := bookOf(t, api.MaxSenders)
		checkFresh(t, b, sender(17), api.Sync, 5, false)
		checkForget(t, b, sender(n), true)
		checkFresh(t, b, sender(17), api.Sync, -1, false)
		checkFresh(t, b, sender(17), api.Sync, 5, true)
		checkFresh(t, b, sender(n), api.Sync, 5, false)
		checkFresh(t, b, sender(18), api.Sync, 5, false)
		checkLen(t, b, 16)
	}
}
