package head_test

import (
	"bytes"
	"encoding/binary"
	"encoding/hex"
	"math"
	"testing"

	"horologe/api"
	"horologe/head"
)

// laid is a right head's bytes, made by other means than the program's.
func laid(h head.Head) []byte {
	b := make([]byte, 34)
	b[0], b[1] = byte(h.Type), 2
	binary.BigEndian.PutUint16(b[2:], uint16(longs()[h.Type]))
	b[4] = byte(h.Domain)
	binary.BigEndian.PutUint16(b[6:], uint16(h.Flags))
	binary.BigEndian.PutUint64(b[8:], uint64(h.Correction))
	copy(b[20:], h.Source.Clock[:])
	binary.BigEndian.PutUint16(b[28:], uint16(h.Source.Number))
	binary.BigEndian.PutUint16(b[30:], uint16(h.Seq))
	b[33] = byte(h.Log)
	return b
}

type written struct {
	h    head.Head
	want string
}

// byHand has a head of each type, written out.
func byHand() []written {
	clock := api.Clock{0, 0x1b, 0x19, 0xff, 0xfe, 0xaa, 0xbb, 0xcc}
	return []written{
		{head.Head{Type: api.Sync, Domain: 0, Flags: api.FlagTwoStep, Source: api.Port{Clock: clock, Number: 1}},
			"0002002c" + "0000" + "0200" + "0000000000000000" + "00000000" + "001b19fffeaabbcc0001" + "0000" + "0000"},
		{head.Head{Type: api.DelayReq, Domain: 0xff, Correction: math.MaxInt, Source: api.Port{Clock: clock, Number: 0xfffe}, Seq: 0xffff, Log: 0x7f},
			"0102002c" + "ff00" + "0000" + "7fffffffffffffff" + "00000000" + "001b19fffeaabbccfffe" + "ffff" + "007f"},
		{head.Head{Type: api.FollowUp, Domain: 0x80, Correction: math.MinInt, Source: api.Port{Clock: clock, Number: 0x0102}, Seq: 0x00ff, Log: -0x80},
			"0802002c" + "8000" + "0000" + "8000000000000000" + "00000000" + "001b19fffeaabbcc0102" + "00ff" + "0080"},
		{head.Head{Type: api.DelayResp, Domain: 1, Correction: -1, Source: api.Port{Number: 0x8000}, Seq: 0x8001, Log: -1},
			"09020036" + "0100" + "0000" + "ffffffffffffffff" + "00000000" + "00000000000000008000" + "8001" + "00ff"},
		{head.Head{Type: api.Announce, Domain: 4, Flags: 0x3f, Correction: 0x0102030405060708, Source: api.Port{Clock: clock, Number: 0xff}, Seq: 0x1234, Log: 1},
			"0b020040" + "0400" + "003f" + "0102030405060708" + "00000000" + "001b19fffeaabbcc00ff" + "1234" + "0001"},
	}
}

func TestEncodeByHand(t *testing.T) {
	for _, x := range byHand() {
		b, is := head.Encode(x.h)
		if hex.EncodeToString(b) != x.want || !is {
			t.Errorf("P5.1: Encode(%+v): %x %v", x.h, b, is)
		}
	}
}

func TestEncodeOfRightHeads(t *testing.T) {
	for _, h := range rightHeads() {
		b, is := head.Encode(h)
		if !bytes.Equal(b, laid(h)) || !is {
			t.Errorf("P5.1: Encode(%+v): %x %v", h, b, is)
		}
	}
}

func TestEncodeOfWrongHeads(t *testing.T) {
	for _, h := range append(wrongHeads(), head.Head{}) {
		if b, is := head.Encode(h); is || b != nil {
			t.Errorf("P5.1: Encode(%+v): %x %v", h, b, is)
		}
	}
}

// TestEncodeOfEachSet of flags: none of a type that may not have them is laid.
func TestEncodeOfEachSet(t *testing.T) {
	for _, kind := range kinds() {
		for flags := range 0x10000 {
			h := plain(kind)
			h.Flags = flags
			b, is := head.Encode(h)
			if is != mayHaveAll(kind, flags) || is && !bytes.Equal(b, laid(h)) || !is && b != nil {
				t.Errorf("P5.1: Encode of the type %d with the flags %#x: %x %v", kind, flags, b, is)
			}
		}
	}
}

func TestEncodedBytesAreTheCallers(t *testing.T) {
	h := plain(api.Announce)
	a, _ := head.Encode(h)
	b, _ := head.Encode(h)
	for i := range a {
		a[i] = 0x55
	}
	if !bytes.Equal(b, laid(h)) {
		t.Errorf("R6: what was told is changed: %x", b)
	}
	if c, is := head.Encode(h); !is || !bytes.Equal(c, laid(h)) {
		t.Errorf("R6: what is told is changed: %x", c)
	}
}
