package frame_test

import (
	"bytes"
	"encoding/binary"
	"encoding/hex"
	"testing"

	"horologe/api"
	"horologe/frame"
	"horologe/head"
	"horologe/stamp"
)

// meant is what bytes are to be told as, found by other means than the program's, but for the head.
func meant(b []byte) (frame.Message, api.Errno) {
	h, e := head.Decode(b)
	if e != api.OK {
		return frame.Message{}, e
	}
	pair := func(at int) int { return int(binary.BigEndian.Uint16(b[at:])) }
	m := frame.Message{Head: h, Time: stamp.Stamp{
		Sec: pair(34)<<32 | int(binary.BigEndian.Uint32(b[36:])),
		Ns:  int(binary.BigEndian.Uint32(b[40:])),
	}}
	bad := m.Time.Ns > 999999999
	switch h.Type {
	case api.DelayResp:
		m.Asker = api.Port{Clock: api.Clock(b[44:52]), Number: pair(52)}
		bad = bad || m.Asker.Number == 0 || m.Asker.Number == 65535
	case api.Announce:
		m.Offset, m.Source = pair(44), int(b[63])
		if m.Offset > 32767 {
			m.Offset -= 65536
		}
		m.Set = api.Set{
			Priority1: int(b[47]),
			Priority2: int(b[52]),
			Quality:   api.Quality{Class: int(b[48]), Accuracy: int(b[49]), Variance: pair(50)},
			Grand:     api.Clock(b[53:61]),
			Steps:     pair(61),
			Sender:    h.Source,
		}
		bad = bad || b[46] != 0 || bytes.Equal(b[53:61], make([]byte, 8))
	}
	if bad {
		return frame.Message{}, api.ErrFrameBody
	}
	return m, api.OK
}

func checkRefused(t *testing.T, b []byte, want api.Errno) {
	t.Helper()
	if m, e := frame.Decode(b); e != want || m != (frame.Message{}) {
		t.Errorf("P6.2: Decode(%x): %+v, %d, not %d", b, m, e, want)
	}
}

func checkRead(t *testing.T, b []byte, want frame.Message) {
	t.Helper()
	if m, e := frame.Decode(b); e != api.OK || m != want {
		t.Errorf("P6.2: Decode(%x): %+v, %d, not %+v", b, m, e, want)
	}
}

// checkMeant asks of any bytes at all.
func checkMeant(t *testing.T, b []byte) {
	t.Helper()
	want, fault := meant(b)
	m, e := frame.Decode(b)
	if m != want || e != fault {
		t.Errorf("P6.2: Decode(%x): %+v, %d, not %+v, %d", b, m, e, want, fault)
	}
}

func TestDecodeByHand(t *testing.T) {
	for _, x := range byHand() {
		b, err := hex.DecodeString(x.want)
		if err != nil {
			t.Fatal(err)
		}
		checkRead(t, b, x.m)
	}
}

func TestDecodeOfRightMessages(t *testing.T) {
	for _, m := range rightMessages() {
		checkRead(t, laid(m), m)
	}
}

func TestDecodeOfNothing(t *testing.T) {
	checkRefused(t, nil, api.ErrHeadShort)
	checkRefused(t, []byte{}, api.ErrHeadShort)
}

// TestDecodeOfCutMessages has room behind the bytes that does not count.
func TestDecodeOfCutMessages(t *testing.T) {
	for _, kind := range kinds() {
		b := laid(plain(kind))
		for n := range b {
			want := api.ErrHeadLength
			if n < 34 {
				want = api.ErrHeadShort
			}
			checkRefused(t, b[:n], want)
		}
	}
}

func TestDecodeWithSomethingBehind(t *testing.T) {
	for _, kind := range kinds() {
		for _, n := range []int{1, 2, 10, 20, 64, 256, 0x10000} {
			for _, with := range []byte{0, 0xff} {
				checkRefused(t, append(laid(plain(kind)), bytes.Repeat([]byte{with}, n)...), api.ErrHeadLength)
			}
		}
	}
}

// TestDecodeOfOtherTypes has a message of one type, with the length of another one's.
func TestDecodeOfOtherTypes(t *testing.T) {
	for _, kind := range kinds() {
		for _, other := range kinds() {
			b := laid(plain(kind))
			b[0] = byte(other)
			checkMeant(t, b)
			binary.BigEndian.PutUint16(b[2:], uint16(head.Long(other)))
			checkMeant(t, b)
		}
	}
}

type fault struct {
	e     api.Errno
	spoil func(b []byte) []byte
}

// headFaults are in the chapter's order.
func headFaults() []fault {
	set := func(at int, to byte) func(b []byte) []byte {
		return func(b []byte) []byte {
			b[at] = to
			return b
		}
	}
	return []fault{
		{api.ErrHeadShort, func(b []byte) []byte { return b[:33] }},
		{api.ErrHeadVersion, set(1, 1)},
		{api.ErrHeadType, set(0, 3)},
		{api.ErrHeadLength, set(2, 1)},
		{api.ErrHeadLength, func(b []byte) []byte { return append(b, 0) }},
		{api.ErrHeadLength, func(b []byte) []byte { return b[:len(b)-1] }},
		{api.ErrHeadReserved, set(5, 1)},
		{api.ErrHeadReserved, set(16, 1)},
		{api.ErrHeadReserved, set(32, 1)},
		{api.ErrHeadFlags, set(6, 0x40)},
		{api.ErrHeadSource, func(b []byte) []byte { return set(28, 0)(set(29, 0)(b)) }},
	}
}

// TestDecodeTellsHeadsFaultsFirst has a head's fault with a right body, and with a wrong one.
func TestDecodeTellsHeadsFaultsFirst(t *testing.T) {
	for _, kind := range kinds() {
		for _, f := range headFaults() {
			checkRefused(t, f.spoil(laid(plain(kind))), f.e)
			b := laid(plain(kind))
			for i := 34; i < len(b); i++ {
				b[i] = 0xff
			}
			checkRefused(t, f.spoil(b), f.e)
		}
	}
}

// TestDecodeOfTimes has the nanoseconds on both sides of their bound; every number of seconds is right.
func TestDecodeOfTimes(t *testing.T) {
	for _, kind := range kinds() {
		for _, ns := range []uint32{0, 1, 999999998, 999999999, 1000000000, 1000000001, 1 << 30, 1 << 31, 1<<32 - 1} {
			b := laid(plain(kind))
			binary.BigEndian.PutUint32(b[40:], ns)
			if ns > 999999999 {
				checkRefused(t, b, api.ErrFrameBody)
				continue
			}
			m := plain(kind)
			m.Time.Ns = int(ns)
			checkRead(t, b, m)
		}
		for _, with := range []byte{0, 0x80, 0xff} {
			b := laid(plain(kind))
			copy(b[34:40], bytes.Repeat([]byte{with}, 6))
			m := plain(kind)
			m.Time.Sec = int(with) * 0x010101010101
			checkRead(t, b, m)
		}
	}
}

func TestDecodeOfEachAsker(t *testing.T) {
	for n := range 0x10000 {
		m := plain(api.DelayResp)
		m.Asker.Number = n
		if n == 0 || n == 65535 {
			checkRefused(t, laid(m), api.ErrFrameBody)
		} else {
			checkRead(t, laid(m), m)
		}
	}
}

func TestDecodeOfTheByteThatMustBeZero(t *testing.T) {
	for n := 1; n < 256; n++ {
		b := laid(plain(api.Announce))
		b[46] = byte(n)
		checkRefused(t, b, api.ErrFrameBody)
	}
}

func TestDecodeOfGrands(t *testing.T) {
	m := plain(api.Announce)
	m.Set.Grand = api.Clock{}
	checkRefused(t, laid(m), api.ErrFrameBody)
	for i := range m.Set.Grand {
		for n := 1; n < 256; n++ {
			m.Set.Grand = api.Clock{}
			m.Set.Grand[i] = byte(n)
			checkRead(t, laid(m), m)
		}
	}
}

// TestDecodeOfFullBodies has all bytes of a body the same.
func TestDecodeOfFullBodies(t *testing.T) {
	for _, kind := range kinds() {
		for n := range 256 {
			b := laid(plain(kind))
			for i := 34; i < len(b); i++ {
				b[i] = byte(n)
			}
			checkMeant(t, b)
		}
	}
}

func TestDecodeOfMixedBytes(t *testing.T) {
	for _, x := range mixed(20000) {
		b := make([]byte, int(x%80))
		for i := range b {
			x = x*6364136223846793005 + 1442695040888963407
			b[i] = byte(x >> 56)
		}
		checkMeant(t, b)
	}
}

// TestDecodeOfMixedBodies has right heads, so that all of them are asked more.
func TestDecodeOfMixedBodies(t *testing.T) {
	for _, kind := range kinds() {
		for _, x := range mixed(5000) {
			b := laid(plain(kind))
			for i := 34; i < len(b); i++ {
				x = x*6364136223846793005 + 1442695040888963407
				b[i] = byte(x >> 56)
			}
			checkMeant(t, b)
			// Most of them have a wrong time, or a spare byte: without that the rest is asked.
			b[40] &= 0x1f
			if kind == api.Announce && x>>40&1 == 0 {
				b[46] = 0
			}
			checkMeant(t, b)
		}
	}
}

func TestDecodeChangesNothing(t *testing.T) {
	for _, m := range rightMessages() {
		b := append(laid(m), 0x55)
		whole := bytes.Clone(b)
		got, _ := frame.Decode(b[:len(b)-1])
		if !bytes.Equal(b, whole) {
			t.Errorf("R5: Decode changed %x to %x", whole, b)
		}
		clear(b)
		if got != m {
			t.Errorf("R6: what was told is changed: %+v", got)
		}
	}
}
