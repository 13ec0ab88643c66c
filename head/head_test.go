package head_test

import (
	"math"
	"slices"
	"testing"

	"horologe/api"
	"horologe/head"
)

// longs is the chapter's own table, by which the tests go.
func longs() map[int]int {
	return map[int]int{api.Sync: 44, api.DelayReq: 44, api.FollowUp: 44, api.DelayResp: 54, api.Announce: 64}
}

func kinds() []int {
	return []int{api.Sync, api.DelayReq, api.FollowUp, api.DelayResp, api.Announce}
}

// noKinds are no types, though the lowest bits of some are those of one.
func noKinds() []int {
	l := []int{math.MinInt, math.MinInt + api.Announce, -1 << 32, -256, -16, -11, -5, -1, 1 << 32, 1<<32 + api.Announce, math.MaxInt}
	for n := 2; n < 600; n++ {
		if n != 8 && n != 9 && n != 11 {
			l = append(l, n)
		}
	}
	return l
}

// mayHave are the flags that a type may have, as the chapter and api tell them.
func mayHave(kind int) []int {
	switch kind {
	case 0:
		return []int{0x0200}
	case 11:
		return []int{0x0001, 0x0002, 0x0004, 0x0008, 0x0010, 0x0020}
	}
	return nil
}

func mayHaveAll(kind, flags int) bool {
	for _, f := range mayHave(kind) {
		flags &^= f
	}
	return flags == 0
}

// mixed are numbers made by a rule, alike at every run.
func mixed(count int) []uint64 {
	l := make([]uint64, count)
	x := uint64(88172645463325252)
	for i := range l {
		x ^= x << 13
		x ^= x >> 7
		x ^= x << 17
		l[i] = x
	}
	return l
}

func corrections() []int {
	return []int{math.MinInt, math.MinInt + 1, -1 << 62, -1 << 32, -65537, -65536, -257, -256, -255, -129, -128, -2, -1, 0, 1, 127, 128, 255, 256, 65535, 65536, 1 << 31, 1 << 32, 0x0102030405060708, 1 << 62, math.MaxInt - 1, math.MaxInt}
}

// plain is a right head of a type, with nothing that is at an edge.
func plain(kind int) head.Head {
	return head.Head{Type: kind, Domain: 3, Correction: -2, Source: api.Port{Clock: api.Clock{1, 2, 3, 4, 5, 6, 7, 8}, Number: 258}, Seq: 0x1234, Log: -1}
}

// rightHeads are of each type, at each edge and between.
func rightHeads() []head.Head {
	var l []head.Head
	for _, kind := range kinds() {
		add := func(change func(h *head.Head)) {
			h := plain(kind)
			change(&h)
			l = append(l, h)
		}
		add(func(h *head.Head) {})
		all := 0
		for _, f := range mayHave(kind) {
			add(func(h *head.Head) { h.Flags = f })
			all |= f
		}
		add(func(h *head.Head) { h.Flags = all })
		for _, n := range []int{0, 1, 127, 128, 0xfe, 0xff} {
			add(func(h *head.Head) { h.Domain = n })
		}
		for _, n := range corrections() {
			add(func(h *head.Head) { h.Correction = n })
		}
		for _, n := range []int{1, 2, 0xff, 0x100, 0x7fff, 0x8000, 0xfffd, 0xfffe} {
			add(func(h *head.Head) { h.Source.Number = n })
		}
		for _, c := range []api.Clock{{}, {7: 1}, {0x80}, {0xff, 0xff, 0xff, 0xff, 0xff, 0xff, 0xff, 0xff}} {
			add(func(h *head.Head) { h.Source.Clock = c })
		}
		for _, n := range []int{0, 1, 0xff, 0x100, 0x7fff, 0x8000, 0xfffe, 0xffff} {
			add(func(h *head.Head) { h.Seq = n })
		}
		for _, n := range []int{-0x80, -0x7f, -1, 0, 1, 0x7e, 0x7f} {
			add(func(h *head.Head) { h.Log = n })
		}
		for _, x := range mixed(50) {
			add(func(h *head.Head) {
				h.Domain, h.Correction, h.Seq, h.Log = int(byte(x)), int(x*x), int(uint16(x>>8)), int(int8(x>>24))
				h.Source = api.Port{Clock: api.Clock{byte(x >> 3), byte(x >> 33), 5: byte(x >> 44)}, Number: 1 + int(x>>20)%0xfffe}
				h.Flags = int(x>>5) & all
			})
		}
	}
	return l
}

// wrongHeads have one thing that may not be, though the lowest bytes of some are those of a right one.
func wrongHeads() []head.Head {
	var l []head.Head
	for _, kind := range kinds() {
		add := func(numbers []int, change func(h *head.Head, n int)) {
			for _, n := range numbers {
				h := plain(kind)
				change(&h, n)
				l = append(l, h)
			}
		}
		great := []int{math.MinInt, -1 << 32, -0x10000, -0x100, 0x10000, 0x10001, 0x10000 + 0x200, 1 << 32, 1<<32 + 1, math.MaxInt}
		add(noKinds(), func(h *head.Head, n int) { h.Type = n })
		add(append(great, -1, 0x100, 0x101), func(h *head.Head, n int) { h.Domain = n })
		add(append(great, -1, 0, -2, 0xffff), func(h *head.Head, n int) { h.Source.Number = n })
		add(append(great, -1, -0xffff), func(h *head.Head, n int) { h.Seq = n })
		add(append(great, -0x81, 0x80, 0xff, 0x101), func(h *head.Head, n int) { h.Log = n })
		add(append(great, -1, 0x40, 0x80, 0x100, 0x400, 0x8000, 0xffff), func(h *head.Head, n int) { h.Flags = n })
	}
	return l
}

func TestLong(t *testing.T) {
	for kind, want := range longs() {
		if n := head.Long(kind); n != want {
			t.Errorf("P5: Long(%d): %d", kind, n)
		}
	}
	for _, kind := range noKinds() {
		if n := head.Long(kind); n != 0 {
			t.Errorf("P5: Long(%d): %d", kind, n)
		}
	}
}

func TestRightHeads(t *testing.T) {
	for _, h := range rightHeads() {
		if !head.Right(h) {
			t.Errorf("P5: not right: %+v", h)
		}
	}
}

func TestWrongHeads(t *testing.T) {
	for _, h := range wrongHeads() {
		if head.Right(h) {
			t.Errorf("P5: right: %+v", h)
		}
	}
	if head.Right(head.Head{}) {
		t.Error("P5: the zero head has no Source, and is right")
	}
}

// TestFlagsOfEachType has each flag alone and all sets of flags, at its own type and at the others.
func TestFlagsOfEachType(t *testing.T) {
	for _, kind := range kinds() {
		for flags := -0x300; flags < 0x10400; flags++ {
			h := plain(kind)
			h.Flags = flags
			if head.Right(h) != mayHaveAll(kind, flags) {
				t.Errorf("P5: Right of the type %d with the flags %#x: %v", kind, flags, head.Right(h))
			}
		}
	}
	for _, kind := range kinds() {
		h := plain(kind)
		h.Flags = api.FlagTwoStep
		if head.Right(h) != (kind == api.Sync) {
			t.Errorf("P5: FlagTwoStep of the type %d: %v", kind, head.Right(h))
		}
		for _, f := range []int{api.FlagLeap61, api.FlagLeap59, api.FlagUtcValid, api.FlagPtp, api.FlagTraceable, api.FlagFrequency} {
			h.Flags = f
			if head.Right(h) != (kind == api.Announce) {
				t.Errorf("P5: the flag %#x of the type %d: %v", f, kind, head.Right(h))
			}
			h.Flags = f | api.FlagTwoStep
			if head.Right(h) {
				t.Errorf("P5: the flags %#x of the type %d are right", h.Flags, kind)
			}
		}
	}
}

// TestRightAtEachNumber goes over the bounds on both sides.
func TestRightAtEachNumber(t *testing.T) {
	for n := -0x200; n < 0x10200; n++ {
		for _, x := range []struct {
			name   string
			change func(h *head.Head)
			want   bool
		}{
			{"Type", func(h *head.Head) { h.Type = n }, slices.Contains(kinds(), n)},
			{"Domain", func(h *head.Head) { h.Domain = n }, 0 <= n && n <= 0xff},
			{"Number", func(h *head.Head) { h.Source.Number = n }, 1 <= n && n <= 0xfffe},
			{"Seq", func(h *head.Head) { h.Seq = n }, 0 <= n && n <= 0xffff},
			{"Log", func(h *head.Head) { h.Log = n }, -0x80 <= n && n <= 0x7f},
			{"Correction", func(h *head.Head) { h.Correction = n }, true},
		} {
			h := plain(api.DelayResp)
			x.change(&h)
			if head.Right(h) != x.want {
				t.Errorf("P5: Right with the %s %d: %v", x.name, n, head.Right(h))
			}
		}
	}
}
