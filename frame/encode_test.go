package frame_test

import (
	"bytes"
	"encoding/binary"
	"encoding/hex"
	"testing"

	"horologe/api"
	"horologe/frame"
	"horologe/head"
	"horologe/stamp"
)

// laid is a right message's bytes, made by other means than the program's, but for the head's.
func laid(m frame.Message) []byte {
	h, _ := head.Encode(m.Head)
	b := make([]byte, head.Long(m.Head.Type))
	copy(b, h)
	binary.BigEndian.PutUint16(b[34:], uint16(m.Time.Sec>>32))
	binary.BigEndian.PutUint32(b[36:], uint32(m.Time.Sec))
	binary.BigEndian.PutUint32(b[40:], uint32(m.Time.Ns))
	switch m.Head.Type {
	case api.DelayResp:
		copy(b[44:], m.Asker.Clock[:])
		binary.BigEndian.PutUint16(b[52:], uint16(m.Asker.Number))
	case api.Announce:
		binary.BigEndian.PutUint16(b[44:], uint16(m.Offset))
		b[47] = byte(m.Set.Priority1)
		b[48] = byte(m.Set.Quality.Class)
		b[49] = byte(m.Set.Quality.Accuracy)
		binary.BigEndian.PutUint16(b[50:], uint16(m.Set.Quality.Variance))
		b[52] = byte(m.Set.Priority2)
		copy(b[53:], m.Set.Grand[:])
		binary.BigEndian.PutUint16(b[61:], uint16(m.Set.Steps))
		b[63] = byte(m.Source)
	}
	return b
}

type written struct {
	m    frame.Message
	want string
}

// byHand has a message of each type, written out.
func byHand() []written {
	from := api.Port{Clock: api.Clock{0, 0x1b, 0x19, 0xff, 0xfe, 0xaa, 0xbb, 0xcc}, Number: 1}
	other := api.Port{Clock: api.Clock{0xff, 0xee, 0xdd, 0xcc, 0xbb, 0xaa, 0x99, 0x88}, Number: 65534}
	headOf := func(kind int) head.Head { return head.Head{Type: kind, Source: from, Seq: 0x0102} }
	flags := func(s string) string {
		return "0000" + s + "0000000000000000" + "00000000" + "001b19fffeaabbcc0001" + "0102" + "0000"
	}
	return []written{
		{frame.Message{Head: headOf(api.Sync)},
			"0002002c" + flags("0000") + "000000000000" + "00000000"},
		{frame.Message{Head: headOf(api.DelayReq), Time: stamp.Stamp{Sec: 1<<48 - 1, Ns: 999999999}},
			"0102002c" + flags("0000") + "ffffffffffff" + "3b9ac9ff"},
		{frame.Message{Head: headOf(api.FollowUp), Time: stamp.Stamp{Sec: 1, Ns: 2}},
			"0802002c" + flags("0000") + "000000000001" + "00000002"},
		{frame.Message{Head: headOf(api.DelayResp), Time: stamp.Stamp{Sec: 5, Ns: 6}, Asker: other},
			"09020036" + flags("0000") + "000000000005" + "00000006" + "ffeeddccbbaa9988" + "fffe"},
		{frame.Message{Head: headOf(api.Announce), Time: stamp.Stamp{Sec: 7, Ns: 8}, Offset: -32768, Source: 160,
			Set: api.Set{Priority1: 128, Priority2: 129, Quality: api.Quality{Class: 248, Accuracy: 254, Variance: 65535}, Grand: other.Clock, Steps: 1, Sender: from}},
			"0b020040" + flags("0000") + "000000000007" + "00000008" + "8000" + "00" + "80" + "f8" + "fe" + "ffff" + "81" + "ffeeddccbbaa9988" + "0001" + "a0"},
		{frame.Message{Head: head.Head{Type: api.Announce, Flags: api.FlagUtcValid, Source: from, Seq: 0x0102}, Offset: 37, Source: 32,
			Set: api.Set{Quality: api.Quality{Class: 6, Accuracy: 33, Variance: 0x4e5d}, Grand: from.Clock, Steps: 65535, Sender: from}},
			"0b020040" + flags("0004") + "000000000000" + "00000000" + "0025" + "00" + "00" + "06" + "21" + "4e5d" + "00" + "001b19fffeaabbcc" + "ffff" + "20"},
	}
}

func TestEncodeByHand(t *testing.T) {
	for _, x := range byHand() {
		b, is := frame.Encode(x.m)
		if hex.EncodeToString(b) != x.want || !is {
			t.Errorf("P6.1: Encode(%+v): %x %v, not %s", x.m, b, is, x.want)
		}
	}
}

func TestEncodeOfRightMessages(t *testing.T) {
	for _, m := range rightMessages() {
		b, is := frame.Encode(m)
		if !bytes.Equal(b, laid(m)) || !is {
			t.Errorf("P6.1: Encode(%+v): %x %v", m, b, is)
		}
	}
}

func TestEncodeOfWrongMessages(t *testing.T) {
	for _, x := range append(wrongMessages(), wrong{"all", frame.Message{}}) {
		if b, is := frame.Encode(x.m); is || len(b) != 0 {
			t.Errorf("P6.1: Encode with a wrong %s: %+v: %x %v", x.name, x.m, b, is)
		}
	}
}

func TestEncodeOfEachOffset(t *testing.T) {
	for n := -32768; n <= 32767; n++ {
		m := plain(api.Announce)
		m.Offset = n
		b, is := frame.Encode(m)
		if !is || int(int16(binary.BigEndian.Uint16(b[44:]))) != n {
			t.Fatalf("P6.1: the Offset %d: %x %v", n, b, is)
		}
		if got, e := frame.Decode(b); e != api.OK || got != m {
			t.Fatalf("P6.3: the Offset %d came back as %d, %d", n, got.Offset, e)
		}
	}
}

func TestEncodedBytesAreTheCallers(t *testing.T) {
	for _, kind := range kinds() {
		m := plain(kind)
		a, _ := frame.Encode(m)
		b, _ := frame.Encode(m)
		for i := range a {
			a[i] = 0x55
		}
		_ = append(a, 0x55)
		if !bytes.Equal(b, laid(m)) {
			t.Errorf("R6: what was told is changed: %x", b)
		}
		if c, is := frame.Encode(m); !is || !bytes.Equal(c, laid(m)) {
			t.Errorf("R6: what is told is changed: %x", c)
		}
	}
}
