package seqs_test

import (
	"slices"
	"testing"

	"horologe/api"
	"horologe/seqs"
)

// numbers is a rule that makes numbers, alike at every run.
func numbers(x uint64) func(n int) int {
	return func(n int) int {
		x ^= x << 13
		x ^= x >> 7
		x ^= x << 17
		return int(x >> 11 % uint64(n))
	}
}

// TestFreshTwice counts on from the first number that was fresh, without going round: of one number both counts are 65536 apart at least, with all others between.
func TestFreshTwice(t *testing.T) {
	take := numbers(88172645463325252)
	for _, reach := range []int{2, 100, 32768, 65536} {
		b := seqs.New()
		last, count, twice := -1, 0, 0
		at := map[int]int{}
		for range 200000 {
			seq := take(65536)
			if last >= 0 {
				seq = (last + take(reach)) % 65536
			}
			if !b.Fresh(sender(1), api.Sync, seq) {
				continue
			}
			if last >= 0 {
				count += (seq - last + 65536) % 65536
			}
			if was, has := at[seq]; has {
				twice++
				if count-was-1 < 32768 {
					t.Fatalf("P11.5: %d is fresh twice, %d others between", seq, count-was-1)
				}
			}
			last, at[seq] = seq, count
		}
		if twice == 0 {
			t.Errorf("by steps below %d no number came twice", reach)
		}
	}
}

func TestFreshTwiceAtOnce(t *testing.T) {
	for _, kind := range kinds() {
		b := seqs.New()
		for seq := range 65536 {
			if !b.Fresh(sender(1), kind, seq) || b.Fresh(sender(1), kind, seq) {
				t.Fatalf("P11.5: Fresh of %d and %d", kind, seq)
			}
		}
	}
}

// TestTakenAtMostOnce keeps words of which none comes again.
func TestTakenAtMostOnce(t *testing.T) {
	take := numbers(4711)
	b := bookOf(t, 3)
	taken := map[int]bool{}
	for word := range 20000 {
		if take(2) == 0 {
			b.Keep(sender(1+take(3)), take(3), value(word))
		}
		x, is := b.Take(sender(1+take(3)), take(3))
		if !is {
			continue
		}
		if x != value(x[0]) || taken[x[0]] {
			t.Fatalf("P11.5: taken: %v, and taken before: %v", x, taken[x[0]])
		}
		taken[x[0]] = true
	}
	if len(taken) < 1000 {
		t.Errorf("taken %d times alone", len(taken))
	}
}

// model keeps all that was done as lists, and goes by the chapter's words.
type model struct {
	sent  []int
	known []history
}

type history struct {
	from  api.Port
	fresh [][2]int // the type, and the number
	half  []int    // its number, and what goes with it
}

func isKind(kind int) bool { return slices.Contains(kinds(), kind) }

func isSeq(seq int) bool { return seq >= 0 && seq < 65536 }

func (m *model) find(p api.Port) *history {
	i := slices.IndexFunc(m.known, func(h history) bool { return h.from == p })
	if i < 0 {
		return nil
	}
	return &m.known[i]
}

func (m *model) next(kind int) int {
	if !isKind(kind) {
		return 0
	}
	count := 0
	for _, k := range m.sent {
		if k == kind {
			count++
		}
	}
	m.sent = append(m.sent, kind)
	return count % 65536
}

func (m *model) fresh(p api.Port, kind, seq int) bool {
	if !isKind(kind) || !isSeq(seq) {
		return false
	}
	h := m.find(p)
	if h == nil {
		if len(m.known) == 16 {
			return false
		}
		m.known = append(m.known, history{from: p, fresh: [][2]int{{kind, seq}}})
		return true
	}
	for _, x := range slices.Backward(h.fresh) {
		if x[0] != kind {
			continue
		}
		if gone := (seq - x[1] + 65536) % 65536; gone == 0 || gone >= 32768 {
			return false
		}
		break
	}
	h.fresh = append(h.fresh, [2]int{kind, seq})
	return true
}

func (m *model) keep(p api.Port, seq int, x [3]int) bool {
	h := m.find(p)
	if h == nil || !isSeq(seq) {
		return false
	}
	h.half = append([]int{seq}, x[:]...)
	return true
}

func (m *model) take(p api.Port, seq int) ([3]int, bool) {
	h := m.find(p)
	if h == nil || len(h.half) == 0 || h.half[0] != seq {
		return [3]int{}, false
	}
	x := [3]int(h.half[1:])
	h.half = nil
	return x, true
}

func (m *model) forget(p api.Port) bool {
	before := len(m.known)
	m.known = slices.DeleteFunc(m.known, func(h history) bool { return h.from == p })
	return len(m.known) < before
}

// mixedKind and mixedSeq are seldom wrong.
func mixedKind(take func(n int) int) int {
	l := kinds()
	if take(12) == 0 {
		l = notKinds()
	}
	return l[take(len(l))]
}

func mixedSeq(take func(n int) int) int {
	switch l := notSeqs(); take(12) {
	case 0:
		return l[take(len(l))]
	case 1, 2:
		return 65530 + take(6)
	case 3:
		return 32764 + take(8)
	case 4, 5:
		return take(65536)
	}
	return take(6)
}

// TestAgainstModel makes many calls, and holds each answer against the model's.
func TestAgainstModel(t *testing.T) {
	counts := map[string]int{}
	count := func(name string, is bool) {
		if is {
			counts[name]++
		} else {
			counts["no "+name]++
		}
	}
	for _, senders := range []int{1, 3, 16, 17, 40} {
		take := numbers(uint64(senders)*7919 + 1)
		b, m := seqs.New(), &model{}
		for i := range 6000 {
			p, kind, seq := sender(take(senders)), mixedKind(take), mixedSeq(take)
			switch take(8) {
			case 0:
				checkNext(t, b, kind, m.next(kind))
			case 1, 2, 3:
				want := m.fresh(p, kind, seq)
				checkFresh(t, b, p, kind, seq, want)
				count("fresh", want)
			case 4, 5:
				want := m.keep(p, seq, value(i))
				checkKeep(t, b, p, seq, value(i), want)
				count("kept", want)
			case 6:
				x, want := m.take(p, seq)
				if want {
					checkTake(t, b, p, seq, x)
				} else {
					checkTakeNone(t, b, p, seq)
				}
				count("taken", want)
			case 7:
				if take(4) == 0 {
					want := m.forget(p)
					checkForget(t, b, p, want)
					count("forgotten", want)
				}
			}
			checkLen(t, b, len(m.known))
			if t.Failed() {
				t.Fatalf("the call %d, of %d senders", i, senders)
			}
		}
	}
	for _, name := range []string{"fresh", "no fresh", "kept", "no kept", "taken", "no taken", "forgotten", "no forgotten"} {
		if counts[name] < 100 {
			t.Errorf("%s: %d times alone", name, counts[name])
		}
	}
}

func TestTheSameCallsTellTheSame(t *testing.T) {
	run := func() (l []int) {
		take := numbers(99)
		b := seqs.New()
		for i := range 3000 {
			p, kind, seq := sender(take(20)), mixedKind(take), mixedSeq(take)
			l = append(l, b.Next(kind), b.Len())
			if b.Fresh(p, kind, seq) {
				l = append(l, seq)
			}
			if b.Keep(p, seq, value(i)) {
				l = append(l, i)
			}
			x, _ := b.Take(sender(take(20)), seq)
			l = append(l, x[:]...)
			if take(50) == 0 && b.Forget(p) {
				l = append(l, p.Number)
			}
		}
		return l
	}
	first := run()
	for range 5 {
		if !slices.Equal(first, run()) {
			t.Fatal("R7: the same calls tell otherwise")
		}
	}
}
