package delay_test

import (
	"testing"

	"horologe/delay"
	"horologe/span"
)

// way is how one message went. Its times are numbers of 2^-16 nanoseconds, as true times need not be whole.
type way struct{ sent, taken, held int }

// read is a time that is told in whole nanoseconds, wrong by gran at most: by how much is taken by chance, often as far as may be.
func read(take func(int) int, exact, gran int) int {
	low, high := (exact-gran*fraction+fraction-1)>>16, (exact+gran*fraction)>>16
	switch take(4) {
	case 0:
		return low
	case 1:
		return high
	}
	return low + take(high-low+1)
}

// has tells whether a number of 2^-16 nanoseconds lies between the bounds of s.
func has(s span.Span, n int) bool {
	return !s.Known || s.Lo*fraction <= n && n <= s.Hi*fraction
}

// onItsWay has a message that took as long as the path says, and was held for a time that need not be whole.
func onItsWay(take func(int) int, p delay.Path) way {
	taken := p.Min * fraction
	switch take(4) {
	case 0:
	case 1:
		taken = p.Max * fraction
	default:
		taken += take((p.Max-p.Min)*fraction + 1)
	}
	return way{sent: take(1 << 40), taken: taken, held: take(1<<25) - take(1<<20)}
}

func mixedPath(take func(int) int) delay.Path {
	low := take(50)
	// With a Gran of 0 only times that are whole could be read: they have a test of their own.
	return delay.Path{Min: low, Max: low + take(50), Gran: 1 + take(5)}
}

// TestOffsetIsInIt has exchanges of which all is known: what is told has the offset.
func TestOffsetIsInIt(t *testing.T) {
	take := numbers(2463534242)
	for range 20000 {
		p := mixedPath(take)
		offset := take(1<<36) - take(1<<36)
		there, back := onItsWay(take, p), onItsWay(take, p)
		x := [4]int{
			read(take, there.sent, p.Gran),
			read(take, there.sent+there.taken+there.held-offset, p.Gran),
			read(take, back.sent-offset, p.Gran),
			read(take, back.sent+back.taken+back.held, p.Gran),
		}
		corr := [2]int{there.held, back.held}
		for i, s := range []span.Span{delay.Sync(p, x[0], corr[0], x[1]), delay.Req(p, x[2], corr[1], x[3]), delay.Both(p, x, corr)} {
			if !s.Known || !has(s, offset) {
				t.Fatalf("P13.3: %v, %v, %v: the offset %d is not in %v (%d)", p, x, corr, offset, s, i)
			}
		}
		// How long both took on the average is doubled, as it need not be whole.
		if s := delay.Mean(p, x, corr); !s.Known || 2*s.Lo*fraction > there.taken+back.taken || there.taken+back.taken > 2*s.Hi*fraction {
			t.Fatalf("P13.2: %v, %v, %v: %d and %d are not in %v", p, x, corr, there.taken, back.taken, s)
		}
	}
}

// TestExactTimes has whole times that are read exactly: nothing less than each offset that may be is told.
func TestExactTimes(t *testing.T) {
	for _, offset := range []int{0, 1, -1, 77, -1000, 1 << 40, -1 << 40} {
		for taken := 3; taken <= 5; taken++ {
			for back := 3; back <= 5; back++ {
				for _, held := range []int{0, 2, -2} {
					p := delay.Path{Min: 3, Max: 5}
					x := [4]int{100, 100 + taken + held - offset, 200 - offset, 200 + back + held}
					corr := [2]int{held * fraction, held * fraction}
					if s := delay.Sync(p, x[0], corr[0], x[1]); s != span.Of(offset+3-taken, offset+5-taken) {
						t.Errorf("P13.3: Sync of %d: %v", offset, s)
					}
					if s := delay.Req(p, x[2], corr[1], x[3]); s != span.Of(offset+back-5, offset+back-3) {
						t.Errorf("P13.3: Req of %d: %v", offset, s)
					}
					if s := delay.Both(p, x, corr); !s.Known || !s.Has(offset) {
						t.Errorf("P13.3: Both of %d: %v", offset, s)
					}
				}
			}
		}
	}
}

// TestTheSameCallsTellTheSame: nothing is kept from one call to the next, and what is handed in stays.
func TestTheSameCallsTellTheSame(t *testing.T) {
	p := delay.Path{Min: 10, Max: 20, Gran: 3}
	x, corr := [4]int{1000, 900, 900, 1035}, [2]int{5 * fraction, -1}
	both, mean := delay.Both(p, x, corr), delay.Mean(p, x, corr)
	for _, q := range append(wrongPaths(), rightPaths()...) {
		delay.Both(q, x, corr)
		delay.Mean(q, x, corr)
		if delay.Both(p, x, corr) != both || delay.Mean(p, x, corr) != mean {
			t.Errorf("R7: behind calls with %v other answers are told", q)
		}
	}
	if x != [4]int{1000, 900, 900, 1035} || corr != [2]int{5 * fraction, -1} || p != (delay.Path{Min: 10, Max: 20, Gran: 3}) {
		t.Error("R5: what was handed in has changed")
	}
}
