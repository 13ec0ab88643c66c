package frame

import (
	"horologe/api"
	"horologe/head"
	"horologe/ident"
	"horologe/stamp"
)

const (
	headLen  = 34
	stampLen = 10
	portLen  = 10
	clockLen = len(api.Clock{})
)

// Encode is a message's bytes, with false, if it is not right; Decode is the message of such bytes, or what is wrong with them.
func Encode(m Message) ([]byte, bool) {
	if !Right(m) {
		return nil, false
	}
	// The parts of a right message are right, so none of them is without bytes.
	b, _ := head.Encode(m.Head)
	time, _ := stamp.Put(m.Time)
	b = append(b, time...)
	switch m.Head.Type {
	case api.DelayResp:
		asker, _ := ident.Put(m.Asker)
		b = append(b, asker...)
	case api.Announce:
		b = append(b, announced(m)...)
	}
	return b, true
}

// announced is what an Announce has behind its Time.
func announced(m Message) []byte {
	s, q := m.Set, m.Set.Quality
	b := pair(m.Offset)
	b = append(b, 0, byte(s.Priority1), byte(q.Class), byte(q.Accuracy))
	b = append(b, pair(q.Variance)...)
	b = append(b, byte(s.Priority2))
	b = append(b, s.Grand[:]...)
	b = append(b, pair(s.Steps)...)
	return append(b, byte(m.Source))
}

func Decode(b []byte) (Message, api.Errno) {
	h, e := head.Decode(b)
	if e != api.OK {
		return Message{}, e
	}
	m, ok := read(h, taker(b[headLen:]))
	if !ok || !Right(m) {
		return Message{}, api.ErrFrameBody
	}
	return m, api.OK
}

// taker gives a body's bytes away piece by piece, so that each is read once, and where a piece stands need not be told. There are enough: the head is only read if its message is as long as its Type asks for.
func taker(body []byte) func(size int) []byte {
	return func(size int) []byte {
		piece := body[:size]
		body = body[size:]
		return piece
	}
}

// read is the message of a head and the body behind it, with false, if bytes of it are nothing; its numbers may still be beyond what is right.
func read(h head.Head, take func(size int) []byte) (Message, bool) {
	time, e := stamp.Get(take(stampLen))
	if e != api.OK {
		return Message{}, false
	}
	m := Message{Head: h, Time: time}
	ok := true
	switch h.Type {
	case api.DelayResp:
		m.Asker, ok = ident.Get(take(portLen))
	case api.Announce:
		ok = readAnnounced(&m, take)
	}
	return m, ok
}

// readAnnounced takes its pieces in the order in which they stand in the bytes.
func readAnnounced(m *Message, take func(size int) []byte) bool {
	one := func() int { return int(take(1)[0]) }
	two := func() int {
		high := one()
		return high<<8 | one()
	}
	// The conversion gives the two bytes their sign back.
	m.Offset = int(int16(two()))
	spare := one()
	m.Set.Priority1 = one()
	m.Set.Quality.Class = one()
	m.Set.Quality.Accuracy = one()
	m.Set.Quality.Variance = two()
	m.Set.Priority2 = one()
	copy(m.Set.Grand[:], take(clockLen))
	m.Set.Steps = two()
	m.Source = one()
	m.Set.Sender = m.Head.Source
	return spare == 0
}

// pair is a number in two bytes; of one below 0 the lowest bytes are it with its sign.
func pair(n int) []byte { return []byte{byte(n >> 8), byte(n)} }
