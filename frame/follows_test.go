package frame_test

import (
	"bytes"
	"testing"

	"horologe/api"
	"horologe/frame"
)

func TestDecodeOfEncodeIsTheMessage(t *testing.T) {
	for _, m := range rightMessages() {
		b, is := frame.Encode(m)
		if got, e := frame.Decode(b); !is || e != api.OK || got != m {
			t.Errorf("P6.3: %+v came back as %+v, %d", m, got, e)
		}
	}
}

// TestEachByteIsRead has each byte of messages at each other number: it is refused, or told as another message, whose bytes they are.
func TestEachByteIsRead(t *testing.T) {
	for _, kind := range kinds() {
		for _, x := range mixed(5) {
			m := plain(kind)
			fill(&m, x)
			for i := range laid(m) {
				for n := range 256 {
					b := laid(m)
					same := b[i] == byte(n)
					b[i] = byte(n)
					checkMeant(t, b)
					got, e := frame.Decode(b)
					if (got == m) != same {
						t.Errorf("P6.3: byte %d of the type %d at %#x: %+v", i, kind, n, got)
					}
					checkBack(t, b, got, e)
				}
			}
		}
	}
}

func checkBack(t *testing.T, b []byte, m frame.Message, e api.Errno) {
	t.Helper()
	if e != api.OK {
		if m != (frame.Message{}) {
			t.Errorf("R1: beside the error %d: %+v", e, m)
		}
		return
	}
	back, is := frame.Encode(m)
	if !is || !frame.Right(m) || !bytes.Equal(back, b) {
		t.Errorf("P6.3: %x came back as %x, %v", b, back, is)
	}
}

// TestUnlikeMessagesHaveUnlikeBytes holds messages of one type against each other.
func TestUnlikeMessagesHaveUnlikeBytes(t *testing.T) {
	of := map[string]frame.Message{}
	for _, m := range rightMessages() {
		b, _ := frame.Encode(m)
		if other, is := of[string(b)]; is && other != m {
			t.Errorf("P6.3: %+v and %+v are both %x", m, other, b)
		}
		of[string(b)] = m
	}
}

// TestEncodeOfDecodeIsTheSame has bodies of all kinds behind right heads.
func TestEncodeOfDecodeIsTheSame(t *testing.T) {
	for _, kind := range kinds() {
		read := 0
		for _, x := range mixed(5000) {
			b := laid(plain(kind))
			for i := 34; i < len(b); i++ {
				x = x*6364136223846793005 + 1442695040888963407
				b[i] = byte(x >> 56)
			}
			b[40] &= 0x1f
			if kind == api.Announce {
				b[46] = 0
			}
			m, e := frame.Decode(b)
			checkBack(t, b, m, e)
			if e == api.OK {
				read++
			}
		}
		if read < 1000 {
			t.Errorf("of the type %d only %d were messages", kind, read)
		}
	}
}

func TestTheSameIsToldAgain(t *testing.T) {
	for _, m := range rightMessages() {
		a, _ := frame.Encode(m)
		b, _ := frame.Encode(m)
		one, _ := frame.Decode(a)
		two, _ := frame.Decode(b)
		if !bytes.Equal(a, b) || one != two {
			t.Errorf("R7: %x and %x", a, b)
		}
	}
}
