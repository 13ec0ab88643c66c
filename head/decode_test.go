package head_test

import (
	"bytes"
	"encoding/hex"
	"testing"

	"horologe/api"
	"horologe/head"
)

// message is a head's bytes, and behind them as many more as its type asks for.
func message(h head.Head, fill byte) []byte {
	b := laid(h)
	return append(b, bytes.Repeat([]byte{fill}, longs()[h.Type]-len(b))...)
}

func checkRefused(t *testing.T, b []byte, want api.Errno) {
	t.Helper()
	if h, e := head.Decode(b); e != want || h != (head.Head{}) {
		t.Errorf("P5.2: Decode(%x): %+v, %d, not %d", b, h, e, want)
	}
}

func checkRead(t *testing.T, b []byte, want head.Head) {
	t.Helper()
	if h, e := head.Decode(b); e != api.OK || h != want {
		t.Errorf("P5.2: Decode(%x): %+v, %d, not %+v", b, h, e, want)
	}
}

func TestDecodeByHand(t *testing.T) {
	for _, x := range byHand() {
		b, err := hex.DecodeString(x.want)
		if err != nil {
			t.Fatal(err)
		}
		checkRead(t, append(b, make([]byte, longs()[x.h.Type]-len(b))...), x.h)
	}
}

func TestDecodeOfRightHeads(t *testing.T) {
	for _, h := range rightHeads() {
		for _, fill := range []byte{0, 1, 0xff} {
			checkRead(t, message(h, fill), h)
		}
	}
}

// TestDecodeOfTooFewBytes has room behind them that does not count, and bytes with other faults too.
func TestDecodeOfTooFewBytes(t *testing.T) {
	checkRefused(t, nil, api.ErrHeadShort)
	checkRefused(t, []byte{}, api.ErrHeadShort)
	for _, kind := range kinds() {
		for n := range 34 {
			checkRefused(t, message(plain(kind), 0)[:n], api.ErrHeadShort)
			checkRefused(t, bytes.Repeat([]byte{0xff}, n), api.ErrHeadShort)
		}
		checkRefused(t, message(plain(kind), 0)[:34], api.ErrHeadLength)
	}
}

func TestDecodeOfOtherVersions(t *testing.T) {
	for _, kind := range kinds() {
		for n := range 256 {
			b := message(plain(kind), 0)
			b[1] = byte(n)
			if n == 2 {
				checkRead(t, b, plain(kind))
			} else {
				checkRefused(t, b, api.ErrHeadVersion)
			}
		}
	}
}

// TestDecodeOfEachFirstByte asks of each type with each higher half, in a message of each length that there is.
func TestDecodeOfEachFirstByte(t *testing.T) {
	for _, long := range []int{34, 44, 54, 64} {
		for n := range 256 {
			b := append(laid(plain(api.DelayReq)), make([]byte, long-34)...)
			b[0], b[3] = byte(n), byte(long)
			own := longs()[n%16]
			switch {
			case own == 0:
				checkRefused(t, b, api.ErrHeadType)
			case own != long:
				checkRefused(t, b, api.ErrHeadLength)
			case n >= 16:
				checkRefused(t, b, api.ErrHeadReserved)
			default:
				checkRead(t, b, plain(n))
			}
		}
	}
}

// TestDecodeOfOtherLengths has each length told, in each length of bytes: both must be the type's own.
func TestDecodeOfOtherLengths(t *testing.T) {
	told := []int{0, 34, 43, 44, 45, 53, 54, 55, 63, 64, 65, 255, 256, 256 + 44, 256 + 54, 256 + 64, 44 * 256, 64 * 256, 0x8000, 0xffff}
	for _, kind := range kinds() {
		for _, a := range told {
			for n := 34; n < 400; n++ {
				b := append(laid(plain(kind)), make([]byte, n-34)...)
				b[2], b[3] = byte(a/256), byte(a%256)
				if a == longs()[kind] && n == a {
					checkRead(t, b, plain(kind))
				} else {
					checkRefused(t, b, api.ErrHeadLength)
				}
			}
		}
		for _, n := range []int{0x10000 + longs()[kind], 1 << 20} {
			checkRefused(t, append(laid(plain(kind)), make([]byte, n-34)...), api.ErrHeadLength)
		}
	}
}

func TestDecodeOfBytesThatMustBeZero(t *testing.T) {
	for _, kind := range kinds() {
		for _, i := range []int{5, 16, 17, 18, 19, 32} {
			for n := 1; n < 256; n++ {
				b := message(plain(kind), 0)
				b[i] = byte(n)
				checkRefused(t, b, api.ErrHeadReserved)
			}
		}
	}
}

func TestDecodeOfEachSet(t *testing.T) {
	for _, kind := range kinds() {
		for flags := range 0x10000 {
			h := plain(kind)
			h.Flags = flags
			if mayHaveAll(kind, flags) {
				checkRead(t, message(h, 0), h)
			} else {
				checkRefused(t, message(h, 0), api.ErrHeadFlags)
			}
		}
	}
}

func TestDecodeOfEachNumber(t *testing.T) {
	for _, kind := range kinds() {
		for n := range 0x10000 {
			h := plain(kind)
			h.Source.Number = n
			if n == 0 || n == 0xffff {
				checkRefused(t, message(h, 0), api.ErrHeadSource)
			} else {
				checkRead(t, message(h, 0), h)
			}
		}
	}
}

type fault struct {
	e     api.Errno
	spoil func(b []byte) []byte
}

// faults are in the chapter's order.
func faults() []fault {
	set := func(at int, to byte) func(b []byte) []byte {
		return func(b []byte) []byte {
			b[at] = to
			return b
		}
	}
	return []fault{
		{api.ErrHeadShort, func(b []byte) []byte { return b[:33] }},
		{api.ErrHeadVersion, set(1, 0x12)},
		{api.ErrHeadType, func(b []byte) []byte { return set(0, b[0]&0xf0|3)(b) }},
		{api.ErrHeadLength, set(2, 1)},
		{api.ErrHeadLength, func(b []byte) []byte { return append(b, 0) }},
		{api.ErrHeadReserved, func(b []byte) []byte { return set(0, b[0]|0x80)(b) }},
		{api.ErrHeadReserved, set(5, 0x80)},
		{api.ErrHeadReserved, set(18, 1)},
		{api.ErrHeadReserved, set(32, 2)},
		{api.ErrHeadFlags, set(6, 0x40)},
		{api.ErrHeadSource, func(b []byte) []byte { return set(28, 0)(set(29, 0)(b)) }},
	}
}

// TestDecodeTellsTheFirstFault has each choice of faults at once.
func TestDecodeTellsTheFirstFault(t *testing.T) {
	l := faults()
	for _, kind := range kinds() {
		for choice := 1; choice < 1<<len(l); choice++ {
			b := message(plain(kind), 0)
			want := api.OK
			// The bytes are cut last, so that the others have them whole.
			for i := len(l) - 1; i >= 0; i-- {
				if choice>>i&1 == 1 {
					b = l[i].spoil(b)
					want = l[i].e
				}
			}
			checkRefused(t, b, want)
		}
	}
}

// TestDecodeOfEachByte has each byte at 00 to ff: what is told is a right head whose bytes they are, or it is refused.
func TestDecodeOfEachByte(t *testing.T) {
	for _, kind := range kinds() {
		for i := range longs()[kind] {
			for n := range 256 {
				b := message(plain(kind), 0)
				b[i] = byte(n)
				h, e := head.Decode(b)
				if e != api.OK && h != (head.Head{}) {
					t.Errorf("R1: Decode(%x): %+v, %d", b, h, e)
				}
				if e == api.OK && (!head.Right(h) || !bytes.Equal(laid(h), b[:34])) {
					t.Errorf("P5.2: Decode(%x): %+v", b, h)
				}
			}
		}
	}
}

func TestDecodeOfMixedBytes(t *testing.T) {
	for _, x := range mixed(20000) {
		b := make([]byte, int(x%80))
		for i := range b {
			x = x*6364136223846793005 + 1442695040888963407
			b[i] = byte(x >> 56)
		}
		// Some get far enough to be asked more.
		if len(b) > 3 && x&1 == 0 {
			b[1], b[2], b[3] = 2, 0, byte(len(b))
		}
		h, e := head.Decode(b)
		if e != api.OK && h != (head.Head{}) || e == api.OK && !bytes.Equal(laid(h), b[:34]) {
			t.Errorf("P5.2: Decode(%x): %+v, %d", b, h, e)
		}
	}
}

func TestDecodeChangesNothing(t *testing.T) {
	for _, h := range rightHeads() {
		b := message(h, 0x55)
		whole := bytes.Clone(b)
		got, _ := head.Decode(b)
		if !bytes.Equal(b, whole) {
			t.Errorf("R5: Decode changed %x to %x", whole, b)
		}
		clear(b)
		if got != h {
			t.Errorf("R6: what was told is changed: %+v", got)
		}
	}
}
