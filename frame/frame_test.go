package frame_test

import (
	"math"
	"testing"

	"horologe/api"
	"horologe/frame"
	"horologe/head"
	"horologe/stamp"
)

func kinds() []int {
	return []int{api.Sync, api.DelayReq, api.FollowUp, api.DelayResp, api.Announce}
}

// plain is a right message of a type, with nothing that is at an edge, and with all that its type says.
func plain(kind int) frame.Message {
	from := api.Port{Clock: api.Clock{1, 2, 3, 4, 5, 6, 7, 8}, Number: 258}
	m := frame.Message{
		Head: head.Head{Type: kind, Domain: 3, Correction: -2, Source: from, Seq: 0x1234, Log: -1},
		Time: stamp.Stamp{Sec: 0x010203040506, Ns: 0x0a0b0c0d},
	}
	switch kind {
	case api.DelayResp:
		m.Asker = api.Port{Clock: api.Clock{0x11, 0x12, 0x13, 0x14, 0x15, 0x16, 0x17, 0x18}, Number: 0x191a}
	case api.Announce:
		m.Offset, m.Source = 0x2122, 0x30
		m.Set = api.Set{
			Priority1: 0x23,
			Priority2: 0x28,
			Quality:   api.Quality{Class: 0x24, Accuracy: 0x25, Variance: 0x2627},
			Grand:     api.Clock{0x31, 0x32, 0x33, 0x34, 0x35, 0x36, 0x37, 0x38},
			Steps:     0x292a,
			Sender:    from,
		}
	}
	return m
}

// part is a number of a message, with the bounds that the chapter tells for it, and the types that say it.
type part struct {
	name      string
	low, high int
	kinds     []int
	set       func(m *frame.Message, n int)
}

func parts() []part {
	announce, resp := []int{api.Announce}, []int{api.DelayResp}
	return []part{
		{"Time.Sec", 0, 1<<48 - 1, kinds(), func(m *frame.Message, n int) { m.Time.Sec = n }},
		{"Time.Ns", 0, 999999999, kinds(), func(m *frame.Message, n int) { m.Time.Ns = n }},
		{"Asker.Number", 1, 65534, resp, func(m *frame.Message, n int) { m.Asker.Number = n }},
		{"Offset", -32768, 32767, announce, func(m *frame.Message, n int) { m.Offset = n }},
		{"Priority1", 0, 255, announce, func(m *frame.Message, n int) { m.Set.Priority1 = n }},
		{"Priority2", 0, 255, announce, func(m *frame.Message, n int) { m.Set.Priority2 = n }},
		{"Class", 0, 255, announce, func(m *frame.Message, n int) { m.Set.Quality.Class = n }},
		{"Accuracy", 0, 255, announce, func(m *frame.Message, n int) { m.Set.Quality.Accuracy = n }},
		{"Variance", 0, 65535, announce, func(m *frame.Message, n int) { m.Set.Quality.Variance = n }},
		{"Steps", 0, 65535, announce, func(m *frame.Message, n int) { m.Set.Steps = n }},
		{"Source", 0, 255, announce, func(m *frame.Message, n int) { m.Source = n }},
	}
}

// unsaid has each part that some type does not say, made not zero; those of the types that say it are not asked.
type unsaid struct {
	name  string
	kinds []int
	set   func(m *frame.Message)
}

func unsaids() []unsaid {
	noResp := []int{api.Sync, api.DelayReq, api.FollowUp, api.Announce}
	noAnnounce := []int{api.Sync, api.DelayReq, api.FollowUp, api.DelayResp}
	return []unsaid{
		{"Asker.Number", noResp, func(m *frame.Message) { m.Asker.Number = 1 }},
		{"Asker.Clock", noResp, func(m *frame.Message) { m.Asker.Clock = api.Clock{7: 1} }},
		{"Asker", noResp, func(m *frame.Message) { m.Asker = m.Head.Source }},
		{"Offset", noAnnounce, func(m *frame.Message) { m.Offset = -1 }},
		{"Priority1", noAnnounce, func(m *frame.Message) { m.Set.Priority1 = 1 }},
		{"Priority2", noAnnounce, func(m *frame.Message) { m.Set.Priority2 = 1 }},
		{"Class", noAnnounce, func(m *frame.Message) { m.Set.Quality.Class = 1 }},
		{"Accuracy", noAnnounce, func(m *frame.Message) { m.Set.Quality.Accuracy = 1 }},
		{"Variance", noAnnounce, func(m *frame.Message) { m.Set.Quality.Variance = 1 }},
		{"Grand", noAnnounce, func(m *frame.Message) { m.Set.Grand = api.Clock{7: 1} }},
		{"Steps", noAnnounce, func(m *frame.Message) { m.Set.Steps = 1 }},
		{"Sender", noAnnounce, func(m *frame.Message) { m.Set.Sender = m.Head.Source }},
		{"Source", noAnnounce, func(m *frame.Message) { m.Source = 1 }},
		{"Receiver.Number", kinds(), func(m *frame.Message) { m.Set.Receiver.Number = 1 }},
		{"Receiver.Clock", kinds(), func(m *frame.Message) { m.Set.Receiver.Clock = api.Clock{1} }},
		{"Receiver", kinds(), func(m *frame.Message) { m.Set.Receiver = m.Head.Source }},
	}
}

// strays are numbers beyond bounds, of some of which the lowest bytes lie within.
func strays(low, high int) []int {
	l := []int{low - 1, low - 2, high + 1, high + 2}
	for _, n := range []int{math.MinInt, math.MinInt + 1, -1 << 48, -1<<48 + 1, -1 << 32, -1<<32 + 1, -0x10000, -0xffff, 0x10000, 0x10001, 1 << 32, 1<<32 + 1, 1 << 48, 1<<48 + 1, math.MaxInt} {
		if n < low || n > high {
			l = append(l, n)
		}
	}
	return l
}

// mixed are numbers made by a rule, alike at every run.
func mixed(count int) []uint64 {
	l := make([]uint64, count)
	x := uint64(88172645463325252)
	for i := range l {
		x ^= x << 13
		x ^= x >> 7
		x ^= x << 17
		l[i] = x
	}
	return l
}

// fill makes all numbers of a message from x, but within their bounds.
func fill(m *frame.Message, x uint64) {
	next := func() uint64 {
		x = x*6364136223846793005 + 1442695040888963407
		return x >> 11
	}
	for _, p := range parts() {
		n := p.low + int(next()%uint64(p.high-p.low+1))
		for _, kind := range p.kinds {
			if kind == m.Head.Type {
				p.set(m, n)
			}
		}
	}
	m.Head.Correction, m.Head.Seq, m.Head.Domain = int(next()<<11), int(uint16(next())), int(byte(next()))
	m.Head.Source = api.Port{Clock: api.Clock{byte(next()), 4: byte(next())}, Number: 1 + int(next()%65534)}
	switch m.Head.Type {
	case api.DelayResp:
		m.Asker.Clock = api.Clock{byte(next()), 7: byte(next())}
	case api.Announce:
		m.Set.Grand = api.Clock{byte(next()), 3: 1, 7: byte(next())}
		m.Set.Sender = m.Head.Source
	}
}

// rightMessages are of each type, at each edge and between.
func rightMessages() []frame.Message {
	var l []frame.Message
	add := func(kind int, change func(m *frame.Message)) {
		m := plain(kind)
		change(&m)
		l = append(l, m)
	}
	for _, kind := range kinds() {
		add(kind, func(m *frame.Message) {})
		for _, n := range []int{math.MinInt, -1, 0, math.MaxInt} {
			add(kind, func(m *frame.Message) { m.Head.Correction = n })
		}
		for _, n := range []int{-128, 0, 127} {
			add(kind, func(m *frame.Message) { m.Head.Log = n })
		}
		for _, x := range mixed(100) {
			add(kind, func(m *frame.Message) { fill(m, x) })
		}
	}
	for _, p := range parts() {
		for _, kind := range p.kinds {
			for _, n := range []int{p.low, p.low + 1, p.low + (p.high-p.low)/2, p.high - 1, p.high} {
				add(kind, func(m *frame.Message) { p.set(m, n) })
			}
		}
	}
	for _, n := range []int{-1, 0, 1, -256, -255, 255, 256} {
		add(api.Announce, func(m *frame.Message) { m.Offset = n })
	}
	for _, c := range []api.Clock{{7: 1}, {1}, {4: 0x80}, {0xff, 0xff, 0xff, 0xff, 0xff, 0xff, 0xff, 0xff}} {
		add(api.Announce, func(m *frame.Message) { m.Set.Grand = c })
		add(api.DelayResp, func(m *frame.Message) { m.Asker.Clock = c })
	}
	add(api.Sync, func(m *frame.Message) { m.Head.Flags = api.FlagTwoStep })
	add(api.Announce, func(m *frame.Message) { m.Head.Flags = 0x3f })
	add(api.DelayResp, func(m *frame.Message) { m.Asker.Clock = api.Clock{} })
	add(api.DelayResp, func(m *frame.Message) { m.Asker = m.Head.Source })
	add(api.Announce, func(m *frame.Message) { m.Set.Grand = m.Head.Source.Clock })
	add(api.Announce, func(m *frame.Message) {
		m.Offset, m.Source = 0, 0
		m.Set = api.Set{Grand: api.Clock{7: 1}, Sender: m.Head.Source}
	})
	return l
}

type wrong struct {
	name string
	m    frame.Message
}

// wrongMessages have one thing that may not be.
func wrongMessages() []wrong {
	var l []wrong
	add := func(name string, kind int, change func(m *frame.Message)) {
		m := plain(kind)
		change(&m)
		l = append(l, wrong{name, m})
	}
	for _, p := range parts() {
		for _, kind := range p.kinds {
			for _, n := range strays(p.low, p.high) {
				add(p.name, kind, func(m *frame.Message) { p.set(m, n) })
			}
		}
	}
	for _, u := range unsaids() {
		for _, kind := range u.kinds {
			add(u.name, kind, u.set)
		}
	}
	add("Grand", api.Announce, func(m *frame.Message) { m.Set.Grand = api.Clock{} })
	add("Sender.Number", api.Announce, func(m *frame.Message) { m.Set.Sender.Number++ })
	add("Sender.Clock", api.Announce, func(m *frame.Message) { m.Set.Sender.Clock[7]++ })
	add("Sender", api.Announce, func(m *frame.Message) { m.Set.Sender = api.Port{} })
	add("Head.Source", api.Announce, func(m *frame.Message) { m.Head.Source.Number++ })
	return append(l, wrongHeads()...)
}

func wrongHeads() []wrong {
	var l []wrong
	for _, kind := range kinds() {
		add := func(change func(h *head.Head)) {
			m := plain(kind)
			change(&m.Head)
			// A Sender that is not the Source would be a second fault.
			if kind == api.Announce {
				m.Set.Sender = m.Head.Source
			}
			l = append(l, wrong{"Head", m})
		}
		for _, n := range []int{-1, 2, 7, 10, 12, 16, 27, 256 + kind, 1<<32 + kind, math.MinInt, math.MaxInt} {
			add(func(h *head.Head) { h.Type = n })
		}
		for _, n := range []int{-1, 256} {
			add(func(h *head.Head) { h.Domain = n })
		}
		for _, n := range []int{-1, 0, 65535, 65536} {
			add(func(h *head.Head) { h.Source.Number = n })
		}
		for _, n := range []int{-1, 65536} {
			add(func(h *head.Head) { h.Seq = n })
		}
		for _, n := range []int{-129, 128} {
			add(func(h *head.Head) { h.Log = n })
		}
		for _, n := range []int{-1, 0x40, 0x201, 0x10000} {
			add(func(h *head.Head) { h.Flags = n })
		}
	}
	return l
}

func TestRightMessages(t *testing.T) {
	for _, m := range rightMessages() {
		if !frame.Right(m) {
			t.Errorf("P6.1: not right: %+v", m)
		}
	}
}

func TestWrongMessages(t *testing.T) {
	for _, x := range wrongMessages() {
		if frame.Right(x.m) {
			t.Errorf("P6.1: right, but for its %s: %+v", x.name, x.m)
		}
	}
	if frame.Right(frame.Message{}) {
		t.Error("P6.1: the zero message has no Source, and is right")
	}
}

// TestRightAtEachNumber goes over the bounds on both sides, at each type: a part that is not said must be 0.
func TestRightAtEachNumber(t *testing.T) {
	for _, p := range parts() {
		says := map[int]bool{}
		for _, kind := range p.kinds {
			says[kind] = true
		}
		for _, kind := range kinds() {
			for n := -0x8100; n < 0x10100; n++ {
				m := plain(kind)
				p.set(&m, n)
				want := n == 0
				if says[kind] {
					want = p.low <= n && n <= p.high
				}
				if frame.Right(m) != want {
					t.Fatalf("P6.1: Right of the type %d with the %s %d: %v", kind, p.name, n, !want)
				}
			}
		}
	}
}

// TestMessagesOfOtherTypes has each type's parts under another one's head: they are right just if they are the same kind of parts.
func TestMessagesOfOtherTypes(t *testing.T) {
	bare := func(kind int) bool { return kind != api.DelayResp && kind != api.Announce }
	for _, kind := range kinds() {
		for _, other := range kinds() {
			m := plain(kind)
			m.Head.Type = other
			want := kind == other || bare(kind) && bare(other)
			if frame.Right(m) != want {
				t.Errorf("P6.1: what the type %d says, under the type %d: %v", kind, other, !want)
			}
			if b, is := frame.Encode(m); is != want || is == (len(b) == 0) {
				t.Errorf("P6.1: Encode of what the type %d says, under the type %d: %x %v", kind, other, b, is)
			}
		}
	}
}
