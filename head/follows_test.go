package head_test

import (
	"testing"

	"horologe/api"
	"horologe/head"
)

func TestDecodeOfEncodeIsTheHead(t *testing.T) {
	for _, h := range rightHeads() {
		for _, fill := range []byte{0, 0x5a, 0xff} {
			b, is := head.Encode(h)
			for is && len(b) < head.Long(h.Type) {
				b = append(b, fill)
			}
			if g, e := head.Decode(b); !is || e != api.OK || g != h {
				t.Errorf("P5.4: %+v came back as %+v, %d", h, g, e)
			}
		}
	}
}

func TestNextIsBehind(t *testing.T) {
	for a := range round {
		if !head.Behind(head.Next(a), a) || head.Behind(a, head.Next(a)) {
			t.Errorf("P5.4: the one behind %x", a)
		}
	}
}

// TestAtMostOneIsBehind has each way that two numbers can lie apart, from several places; at half the way round neither is behind.
func TestAtMostOneIsBehind(t *testing.T) {
	for _, a := range edgeSeqs() {
		for b := range round {
			one, other := head.Behind(a, b), head.Behind(b, a)
			if one && other {
				t.Errorf("P5.4: each of %x and %x is behind the other", a, b)
			}
			if neither := a == b || a-b == 0x8000 || b-a == 0x8000; neither == (one || other) {
				t.Errorf("P5.4: of %x and %x: %v, %v", a, b, one, other)
			}
		}
	}
}
