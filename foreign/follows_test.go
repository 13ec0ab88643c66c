package foreign_test

import (
	"math"
	"math/big"
	"slices"
	"testing"

	"horologe/api"
	"horologe/foreign"
	"horologe/ident"
)

// TestWhoIsNotHeardIsNotQualified has senders that fall silent one by one.
func TestWhoIsNotHeardIsNotQualified(t *testing.T) {
	x := table(t, every)
	for now := 0; now < 400; now++ {
		for n := range api.MaxForeign {
			if now%every == n && now < 60*(n+1) {
				x.Hear(from(n), now)
			}
		}
		for _, s := range x.Qualified(now) {
			if _, at, _ := x.Last(s.Sender); at <= now-window {
				t.Errorf("P8.4: heard at %d, and Qualified at %d: %v", at, now, s)
			}
		}
	}
	checkSenders(t, x, 0, 1, 2, 3, 4)
	checkQualified(t, x, 400)
}

func TestNoMoreThanMaxForeign(t *testing.T) {
	x := table(t, every)
	for now := range 2000 {
		x.Hear(from(now%17), now)
		x.Hear(from(now%17), now)
		if n := len(x.Qualified(now)); n > api.MaxForeign || x.Len() > api.MaxForeign {
			t.Fatalf("P8.4: %d are Qualified, of %d", n, x.Len())
		}
	}
	if x.Len() != api.MaxForeign {
		t.Errorf("P8.4: of 17 senders %d have entries", x.Len())
	}
}

// TestEntriesAreApart: one sender is heard, and what all others' entries tell stays.
func TestEntriesAreApart(t *testing.T) {
	for n := 1; n <= api.MaxForeign; n++ {
		x := fullTable(t, 50, 51, 52, 53, 54)
		for i := range 5 {
			hear(t, x, said(sender(n), 100+i), 60+i, 1)
		}
		for o := 1; o <= api.MaxForeign; o++ {
			if o == n {
				checkLast(t, x, said(sender(n), 104), 64)
			} else {
				checkLast(t, x, from(o), 49+o)
			}
		}
		checkQualified(t, x, 64, said(sender(n), 104))
	}
}

// model keeps all that was heard of each sender, in the order of its entries, and reckons with exact numbers.
type model struct {
	window *big.Int
	own    api.Clock
	known  []history
}

type history struct {
	from  api.Port
	sets  []api.Set
	times []int
}

func (h history) last() int { return h.times[len(h.times)-1] }

// versus holds a time against now less the window.
func (m *model) versus(at, now int) int {
	start := new(big.Int).Sub(big.NewInt(int64(now)), m.window)
	return big.NewInt(int64(at)).Cmp(start)
}

func (m *model) find(p api.Port) int {
	return slices.IndexFunc(m.known, func(h history) bool { return h.from == p })
}

func (m *model) hear(s api.Set, now int) int {
	i := m.find(s.Sender)
	if now < 0 || now > 1<<62 || s.Sender.Clock == m.own || s.Steps >= 255 || s.Steps < 0 || i >= 0 && m.known[i].last() > now {
		return 0
	}
	if i >= 0 {
		m.known[i].sets = append(m.known[i].sets, s)
		m.known[i].times = append(m.known[i].times, now)
		return 1
	}
	h := history{s.Sender, []api.Set{s}, []int{now}}
	if len(m.known) < 5 {
		m.known = append(m.known, h)
		return 2
	}
	gone := -1
	for j, o := range m.known {
		if m.versus(o.last(), now) >= 0 {
			continue
		}
		if gone < 0 || o.last() < m.known[gone].last() || o.last() == m.known[gone].last() && ident.Ports(o.from, m.known[gone].from) < 0 {
			gone = j
		}
	}
	if gone < 0 {
		return 4
	}
	m.known[gone] = h
	return 3
}

func (m *model) rising() []history {
	return slices.SortedFunc(slices.Values(m.known), func(a, b history) int { return ident.Ports(a.from, b.from) })
}

func (m *model) qualified(now int) []api.Set {
	var l []api.Set
	for _, h := range m.rising() {
		n := len(h.times)
		if n < 2 {
			continue
		}
		isIn := func(at int) bool { return m.versus(at, now) > 0 && at <= now }
		if isIn(h.times[n-1]) && isIn(h.times[n-2]) {
			l = append(l, h.sets[n-1])
		}
	}
	return l
}

func (m *model) drop(p api.Port) bool {
	i := m.find(p)
	if i >= 0 {
		m.known = slices.Delete(m.known, i, i+1)
	}
	return i >= 0
}

// numbers is a rule that makes numbers, alike at every run.
func numbers(x uint64) func(n int) int {
	return func(n int) int {
		x ^= x << 13
		x ^= x >> 7
		x ^= x << 17
		return int(x >> 11 % uint64(n))
	}
}

// mixedSender has eleven, of which two are of own, and some are of one clock.
func mixedSender(take func(n int) int) api.Port {
	n := take(11)
	if n < 2 {
		return api.Port{Clock: own(), Number: n}
	}
	return api.Port{Clock: api.Clock{byte(n / 2)}, Number: 300 - n}
}

// mixedTime is about a time, seldom far off.
func mixedTime(take func(n int) int, about, window int) int {
	far := []int{math.MinInt, -1, 0, 1, api.Most, api.Most + 1, math.MaxInt}
	switch take(40) {
	case 0:
		return far[take(len(far))]
	case 1:
		return about - window + take(3) - 1
	case 2, 3, 4, 5:
		return about - take(window/2+1)
	}
	return about
}

func mixedSet(take func(n int) int) api.Set {
	s := said(mixedSender(take), take(1000))
	steps := []int{math.MinInt, -1, 0, 254, 255, 256, math.MaxInt}
	if take(12) == 0 {
		s.Steps = steps[take(len(steps))]
	}
	return s
}

func checkAgainst(t *testing.T, x *foreign.Table, m *model, times ...int) {
	t.Helper()
	var l []api.Port
	for _, h := range m.rising() {
		l = append(l, h.from)
		checkLast(t, x, h.sets[len(h.sets)-1], h.last())
	}
	if got := x.Senders(); !slices.Equal(got, l) || x.Len() != len(l) {
		t.Fatalf("P8.1: Senders: %v, not %v", got, l)
	}
	for _, now := range times {
		checkQualified(t, x, now, m.qualified(now)...)
	}
}

// TestAgainstModel makes many calls, and holds each answer against the model's.
func TestAgainstModel(t *testing.T) {
	counts := map[int]int{}
	for seed, n := range []int{1, 2, 3, every, 1000, 1 << 20, maxEvery} {
		for _, start := range []int{0, api.Most - 60*n} {
			take := numbers(uint64(seed)*7919 + 88172645463325252)
			wide := api.Window * n
			x, m := table(t, n), &model{window: big.NewInt(int64(wide)), own: own()}
			about := start
			for range 4000 {
				about += take(n+2) * take(2)
				if about > api.Most || take(150) == 0 {
					x.Clear()
					m.known = nil
					about = start + take(n)
				}
				s, now := mixedSet(take), mixedTime(take, about, wide)
				want := m.hear(s, now)
				hear(t, x, s, now, want)
				counts[want]++
				if p := mixedSender(take); take(60) == 0 && x.Drop(p) != m.drop(p) {
					t.Errorf("P8.1: Drop(%v)", p)
				}
				asked := mixedTime(take, about, wide)
				checkAgainst(t, x, m, asked, about, about+take(wide+2))
				if t.Failed() {
					t.Fatalf("every %d", n)
				}
			}
		}
	}
	for n := range 5 {
		if counts[n] < 500 {
			t.Errorf("the answer %d came %d times alone", n, counts[n])
		}
	}
}

func TestTheSameCallsTellTheSame(t *testing.T) {
	run := func() (l []int) {
		take := numbers(4711)
		x := table(t, every)
		for i := range 3000 {
			l = append(l, x.Hear(mixedSet(take), mixedTime(take, i, window)))
			for _, s := range x.Qualified(i) {
				l = append(l, s.Priority1)
			}
		}
		return l
	}
	first := run()
	for range 5 {
		if !slices.Equal(first, run()) {
			t.Fatal("R7: the same calls tell otherwise")
		}
	}
}
