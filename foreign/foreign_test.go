package foreign_test

import (
	"math"
	"slices"
	"testing"

	"horologe/api"
	"horologe/foreign"
	"horologe/ident"
)

const (
	maxEvery = 1 << 40
	every    = 10
	window   = api.Window * every
)

func own() api.Clock { return api.Clock{9, 9, 9, 9, 9, 9, 9, 9} }

// sender has clocks that rise with n, and are never own.
func sender(n int) api.Port {
	return api.Port{Clock: api.Clock{1, 2, 3, 4, 5, 6, byte(n / 256), byte(n)}, Number: 1}
}

// said has the word in several places, so that a mixture of two sets is seen.
func said(from api.Port, word int) api.Set {
	return api.Set{
		Priority1: word,
		Priority2: -word,
		Quality:   api.Quality{Class: word + 1, Accuracy: word + 2, Variance: word + 3},
		Grand:     api.Clock{byte(word)},
		Steps:     3,
		Sender:    from,
		Receiver:  api.Port{Clock: own(), Number: word},
	}
}

func from(n int) api.Set { return said(sender(n), n) }

func withSteps(s api.Set, steps int) api.Set {
	s.Steps = steps
	return s
}

func table(t *testing.T, every int) *foreign.Table {
	t.Helper()
	x, e := foreign.New(own(), every)
	if e != api.OK || x == nil {
		t.Fatalf("P8.1: New of every %d: %v %d", every, x, e)
	}
	return x
}

func hear(t *testing.T, x *foreign.Table, s api.Set, now, want int) {
	t.Helper()
	if n := x.Hear(s, now); n != want {
		t.Errorf("P8.2: Hear(%v, %d): %d, not %d", s, now, n, want)
	}
}

func checkSenders(t *testing.T, x *foreign.Table, want ...int) {
	t.Helper()
	var l []api.Port
	for _, n := range want {
		l = append(l, sender(n))
	}
	if got := x.Senders(); !slices.Equal(got, l) || x.Len() != len(l) {
		t.Errorf("P8.1: Senders: %v, and Len %d; not %v", got, x.Len(), l)
	}
}

func checkLast(t *testing.T, x *foreign.Table, s api.Set, at int) {
	t.Helper()
	if got, when, has := x.Last(s.Sender); got != s || when != at || !has {
		t.Errorf("P8.1: Last(%v): %v %d %v, not %v %d", s.Sender, got, when, has, s, at)
	}
}

func checkNoLast(t *testing.T, x *foreign.Table, p api.Port) {
	t.Helper()
	if got, when, has := x.Last(p); got != (api.Set{}) || when != 0 || has {
		t.Errorf("P8.1: Last(%v), which has no entry: %v %d %v", p, got, when, has)
	}
}

func checkQualified(t *testing.T, x *foreign.Table, now int, want ...api.Set) {
	t.Helper()
	if got := x.Qualified(now); !slices.Equal(got, want) {
		t.Errorf("P8.3: Qualified(%d): %v, not %v", now, got, want)
	}
}

func TestNewOfEdges(t *testing.T) {
	for _, n := range []int{1, 2, every, maxEvery - 1, maxEvery} {
		x := table(t, n)
		checkSenders(t, x)
		checkQualified(t, x, 0)
		checkNoLast(t, x, sender(1))
	}
}

func TestNewOfWrongEvery(t *testing.T) {
	for _, n := range []int{math.MinInt, -maxEvery, -1 << 32, -every, -1, 0, maxEvery + 1, 1 << 41, 1 << 60, 1 << 62, math.MaxInt} {
		if x, e := foreign.New(own(), n); x != nil || e != api.ErrArg {
			t.Errorf("P8.1: New of every %d: %v %d", n, x, e)
		}
	}
}

func TestNewOfAnyOwn(t *testing.T) {
	for _, c := range []api.Clock{{}, own(), {0xff, 0xff, 0xff, 0xff, 0xff, 0xff, 0xff, 0xff}} {
		if x, e := foreign.New(c, every); x == nil || e != api.OK || x.Len() != 0 {
			t.Errorf("P8.1: New of %v: %v %d", c, x, e)
		}
	}
}

func TestTablesAreApart(t *testing.T) {
	a, b := table(t, every), table(t, every)
	hear(t, a, from(1), 5, 2)
	checkSenders(t, a, 1)
	checkSenders(t, b)
	hear(t, b, from(2), 5, 2)
	a.Clear()
	checkSenders(t, b, 2)
}

// TestSendersRise hears all orders of five, whose order is by their clocks, or by their numbers.
func TestSendersRise(t *testing.T) {
	c := api.Clock{4}
	rising := []api.Port{
		{Clock: api.Clock{}, Number: 65535},
		{Clock: api.Clock{3: 0xff}, Number: 7},
		{Clock: c, Number: math.MinInt},
		{Clock: c, Number: 2},
		{Clock: c, Number: 10},
	}
	orders(len(rising), func(order []int) {
		x := table(t, every)
		for at, n := range order {
			hear(t, x, said(rising[n], n), at, 2)
		}
		if l := x.Senders(); !slices.Equal(l, rising) {
			t.Errorf("P8.1: Senders, heard as %v: %v", order, l)
		}
	})
	if !slices.IsSortedFunc(rising, ident.Ports) {
		t.Error("these do not rise")
	}
}

// orders tells all orders of 0 to count - 1.
func orders(count int, tell func(order []int)) {
	var grow func(order []int)
	grow = func(order []int) {
		if len(order) == count {
			tell(order)
			return
		}
		for n := range count {
			if !slices.Contains(order, n) {
				grow(append(slices.Clone(order), n))
			}
		}
	}
	grow(nil)
}

func TestLast(t *testing.T) {
	x := table(t, every)
	hear(t, x, from(1), 0, 2)
	checkLast(t, x, from(1), 0)
	hear(t, x, said(sender(1), 70), 3, 1)
	checkLast(t, x, said(sender(1), 70), 3)
	hear(t, x, from(2), 1, 2)
	checkLast(t, x, said(sender(1), 70), 3)
	checkLast(t, x, from(2), 1)
	hear(t, x, from(3), api.Most, 2)
	checkLast(t, x, from(3), api.Most)
	for _, p := range []api.Port{{}, sender(4), {Clock: own(), Number: 1}, {Clock: sender(1).Clock, Number: 2}, {Clock: sender(1).Clock, Number: math.MinInt}, {Clock: sender(1).Clock, Number: 1 + 1<<32}} {
		checkNoLast(t, x, p)
	}
	checkSenders(t, x, 1, 2, 3)
}

func TestDrop(t *testing.T) {
	x := table(t, every)
	if x.Drop(sender(1)) || x.Drop(api.Port{}) {
		t.Error("P8.1: Drop of one that has no entry: true")
	}
	for n := 1; n <= 3; n++ {
		hear(t, x, from(n), 100+n, 2)
		hear(t, x, from(n), 100+n, 1)
	}
	for _, p := range []api.Port{sender(4), {Clock: sender(2).Clock, Number: 2}, {Clock: sender(2).Clock, Number: -1}, {Clock: own(), Number: 1}} {
		if x.Drop(p) {
			t.Errorf("P8.1: Drop(%v), which has no entry: true", p)
		}
	}
	checkSenders(t, x, 1, 2, 3)
	if !x.Drop(sender(2)) {
		t.Error("P8.1: Drop of one that has an entry: false")
	}
	checkSenders(t, x, 1, 3)
	checkNoLast(t, x, sender(2))
	checkLast(t, x, from(1), 101)
	checkLast(t, x, from(3), 103)
	checkQualified(t, x, 110, from(1), from(3))
	if x.Drop(sender(2)) {
		t.Error("P8.1: Drop once more: true")
	}
}

// TestHeardBehindDrop has an earlier time, too: what was forgotten can't be later.
func TestHeardBehindDrop(t *testing.T) {
	ways := map[string]func(x *foreign.Table){
		"Drop":  func(x *foreign.Table) { x.Drop(sender(1)) },
		"Clear": func(x *foreign.Table) { x.Clear() },
	}
	for name, forget := range ways {
		for _, now := range []int{0, 99, 101, 102} {
			x := table(t, every)
			hear(t, x, from(1), 100, 2)
			hear(t, x, from(1), 101, 1)
			forget(x)
			checkQualified(t, x, 101)
			hear(t, x, said(sender(1), 7), now, 2)
			checkLast(t, x, said(sender(1), 7), now)
			if l := x.Qualified(now); len(l) != 0 {
				t.Errorf("P8.3: heard once behind %s, and Qualified: %v", name, l)
			}
			hear(t, x, said(sender(1), 8), now+1, 1)
			checkQualified(t, x, now+1, said(sender(1), 8))
		}
	}
}

func TestClear(t *testing.T) {
	x := table(t, every)
	x.Clear()
	checkSenders(t, x)
	for n := range api.MaxForeign {
		hear(t, x, from(n), 50, 2)
		hear(t, x, from(n), 51, 1)
	}
	x.Clear()
	checkSenders(t, x)
	checkQualified(t, x, 51)
	for n := range api.MaxForeign {
		checkNoLast(t, x, sender(n))
		if x.Drop(sender(n)) {
			t.Errorf("P8.1: Drop(%v) behind Clear: true", sender(n))
		}
	}
	for n := range api.MaxForeign {
		hear(t, x, from(n+20), 10, 2)
	}
	hear(t, x, from(1), 10, 4)
	hear(t, x, said(api.Port{Clock: own(), Number: 1}, 1), 10, 0)
}

func TestListsAreTheCallersOwn(t *testing.T) {
	x := table(t, every)
	for n := 1; n <= 3; n++ {
		hear(t, x, from(n), 5, 2)
		hear(t, x, from(n), 5, 1)
	}
	l := x.Senders()
	for i := range l {
		l[i] = sender(99)
	}
	_ = append(l[:1], sender(98))
	checkSenders(t, x, 1, 2, 3)
	q := x.Qualified(5)
	for i := range q {
		q[i] = from(99)
	}
	_ = append(q[:1], from(98))
	checkQualified(t, x, 5, from(1), from(2), from(3))
	for n := 1; n <= 3; n++ {
		checkLast(t, x, from(n), 5)
	}
}
