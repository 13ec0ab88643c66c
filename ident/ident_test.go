package ident_test

import (
	"bytes"
	"fmt"
	"math"
	"math/big"
	"slices"
	"strings"
	"testing"

	"horologe/api"
	"horologe/ident"
)

const maxNumber = 65535

// edgeClocks rise: clocks of zeros and of ff, and such as differ in one byte alone, the first one or the last one among them.
func edgeClocks() []api.Clock {
	return []api.Clock{
		{},
		{7: 1},
		{7: 0x7f},
		{7: 0x80},
		{7: 0xff},
		{6: 1},
		{6: 1, 7: 0xff},
		{3: 0xff, 4: 0xfe},
		{0, 0x1b, 0x19, 0xff, 0xfe, 0xaa, 0xbb, 0xcc},
		{0, 0xff, 0xff, 0xff, 0xff, 0xff, 0xff, 0xff},
		{1},
		{1, 2, 3, 4, 5, 6, 7, 8},
		{1, 2, 3, 4, 5, 6, 7, 9},
		{2, 2, 3, 4, 5, 6, 7, 8},
		{0x7f},
		{0x80},
		{0xff},
		{0xff, 2, 3, 4, 5, 6, 7, 8},
		{0xff, 0xff, 0xff, 0xff, 0xff, 0xff, 0xff, 0},
		{0xff, 0xff, 0xff, 0xff, 0xff, 0xff, 0xff, 0xff},
	}
}

// mixedClocks are made by a rule, alike at every run; many share their first bytes with the one before.
func mixedClocks(count int) []api.Clock {
	l := make([]api.Clock, count)
	x := uint64(88172645463325252)
	for i := range l {
		x ^= x << 13
		x ^= x >> 7
		x ^= x << 17
		if i > 0 {
			l[i] = l[i-1]
		}
		for j := i % 8; j < 8; j++ {
			l[i][j] = byte(x >> (8 * j))
		}
	}
	return l
}

// numbers are right ones at the edges of both bytes, rising.
func numbers() []int {
	return []int{0, 1, 254, 255, 256, 257, 258, 0x7fff, 0x8000, 65279, 65280, 65534, maxNumber}
}

// wrongNumbers have no room in two bytes, though the lowest two of some are those of a right one.
func wrongNumbers() []int {
	return []int{math.MinInt, -1 << 32, -65537, -65536, -65535, -256, -1, maxNumber + 1, maxNumber + 2, 1 << 17, 1 << 32, 1<<32 + 5, math.MaxInt}
}

func edgePorts() []api.Port {
	var l []api.Port
	for _, c := range edgeClocks() {
		for _, n := range numbers() {
			l = append(l, api.Port{Clock: c, Number: n})
		}
	}
	return l
}

// exact is a clock's bytes as one number, whose order is theirs.
func exact(c api.Clock) *big.Int { return new(big.Int).SetBytes(c[:]) }

func sign(i, j int) int { return big.NewInt(int64(i)).Cmp(big.NewInt(int64(j))) }

func TestCompareByHand(t *testing.T) {
	a := api.Clock{1, 2, 3, 4, 5, 6, 7, 8}
	for _, x := range []struct {
		a, b api.Clock
		want int
	}{
		{a, a, 0},
		{api.Clock{}, api.Clock{}, 0},
		{a, api.Clock{1, 2, 3, 4, 5, 6, 7, 9}, -1},
		{a, api.Clock{1, 2, 3, 4, 5, 6, 7, 7}, 1},
		{a, api.Clock{2, 2, 3, 4, 5, 6, 7, 8}, -1},
		{a, api.Clock{0, 2, 3, 4, 5, 6, 7, 8}, 1},
		{a, api.Clock{0, 9, 9, 9, 9, 9, 9, 9}, 1},
		{a, api.Clock{1, 2, 3, 5, 0, 0, 0, 0}, -1},
		{api.Clock{}, api.Clock{7: 1}, -1},
		{api.Clock{7: 0xff}, api.Clock{}, 1},
		{api.Clock{0x7f}, api.Clock{0x80}, -1},
		{api.Clock{0xff}, api.Clock{}, 1},
		{api.Clock{}, api.Clock{0xff}, -1},
		{api.Clock{7: 0}, api.Clock{7: 0xff}, -1},
	} {
		if n := ident.Compare(x.a, x.b); n != x.want {
			t.Errorf("P4.1: Compare(%x, %x): %d", x.a, x.b, n)
		}
	}
}

func TestCompareAgainstExactNumbers(t *testing.T) {
	l := append(edgeClocks(), mixedClocks(300)...)
	for _, a := range l {
		for _, b := range l {
			if n := ident.Compare(a, b); n != exact(a).Cmp(exact(b)) {
				t.Errorf("P4.1: Compare(%x, %x): %d", a, b, n)
			}
		}
	}
}

// TestCompareAsksEachByte has two clocks that are alike but for one byte, the others at 00, between, and ff.
func TestCompareAsksEachByte(t *testing.T) {
	for i := range 8 {
		for _, fill := range []byte{0, 0x55, 0xff} {
			a := api.Clock(bytes.Repeat([]byte{fill}, 8))
			b := a
			a[i], b[i] = 0x7f, 0x80
			if ident.Compare(a, b) != -1 || ident.Compare(b, a) != 1 {
				t.Errorf("P4.1: Compare of %x and %x: %d, %d", a, b, ident.Compare(a, b), ident.Compare(b, a))
			}
		}
	}
}

func TestPortsByHand(t *testing.T) {
	a, b := api.Clock{1, 2, 3, 4, 5, 6, 7, 8}, api.Clock{1, 2, 3, 4, 5, 6, 7, 9}
	for _, x := range []struct {
		a, b api.Port
		want int
	}{
		{api.Port{Clock: a, Number: 1}, api.Port{Clock: a, Number: 1}, 0},
		{api.Port{Clock: a, Number: 1}, api.Port{Clock: a, Number: 2}, -1},
		{api.Port{Clock: a, Number: 9}, api.Port{Clock: a, Number: 1}, 1},
		{api.Port{Clock: a, Number: 9}, api.Port{Clock: b, Number: 1}, -1},
		{api.Port{Clock: b, Number: 1}, api.Port{Clock: a, Number: 9}, 1},
		{api.Port{Clock: b, Number: 9}, api.Port{Clock: a, Number: 9}, 1},
		{api.Port{Clock: api.Clock{0xff}, Number: 0}, api.Port{Clock: api.Clock{}, Number: maxNumber}, 1},
		{api.Port{}, api.Port{}, 0},
		{api.Port{}, api.Port{Number: 1}, -1},
		{api.Port{Number: 0}, api.Port{Number: maxNumber}, -1},
		{api.Port{Number: 255}, api.Port{Number: 256}, -1},
		{api.Port{Number: maxNumber}, api.Port{Number: maxNumber + 1}, -1},
		{api.Port{Number: 0}, api.Port{Number: -1}, 1},
		{api.Port{Number: 5}, api.Port{Number: 5 + 1<<16}, -1},
		{api.Port{Number: math.MinInt}, api.Port{Number: math.MaxInt}, -1},
		{api.Port{Number: math.MaxInt}, api.Port{Number: math.MinInt}, 1},
		{api.Port{Number: math.MinInt}, api.Port{Number: 1}, -1},
		{api.Port{Number: math.MaxInt}, api.Port{Number: -1}, 1},
	} {
		if n := ident.Ports(x.a, x.b); n != x.want {
			t.Errorf("P4.1: Ports(%v, %v): %d", x.a, x.b, n)
		}
	}
}

// TestPortsOfAll has numbers that no message can hold, too: the order is one of all ports.
func TestPortsOfAll(t *testing.T) {
	all := slices.Sorted(slices.Values(append(numbers(), wrongNumbers()...)))
	for i, c := range edgeClocks() {
		for j, d := range edgeClocks() {
			for k, m := range all {
				for l, n := range all {
					a, b := api.Port{Clock: c, Number: m}, api.Port{Clock: d, Number: n}
					want := sign(i, j)
					if i == j {
						want = sign(k, l)
					}
					if got := ident.Ports(a, b); got != want {
						t.Fatalf("P4.1: Ports(%v, %v): %d", a, b, got)
					}
				}
			}
		}
	}
}

func TestZero(t *testing.T) {
	if !ident.Zero(api.Clock{}) {
		t.Error("P4.1: a clock of zeros is not Zero")
	}
	for i := range 8 {
		for n := 1; n < 256; n++ {
			var c api.Clock
			c[i] = byte(n)
			if ident.Zero(c) {
				t.Errorf("P4.1: %x is Zero", c)
			}
		}
	}
	for _, c := range append(edgeClocks()[1:], mixedClocks(300)...) {
		if ident.Zero(c) {
			t.Errorf("P4.1: %x is Zero", c)
		}
	}
}

func TestTextByHand(t *testing.T) {
	for _, x := range []struct {
		c    api.Clock
		want string
	}{
		{api.Clock{}, "0000000000000000"},
		{api.Clock{1, 2, 3, 4, 5, 6, 7, 8}, "0102030405060708"},
		{api.Clock{0xff, 0xff, 0xff, 0xff, 0xff, 0xff, 0xff, 0xff}, "ffffffffffffffff"},
		{api.Clock{0x0f, 0xf0, 0x9a, 0xa9, 0, 0xff, 0x10, 0xbc}, "0ff09aa900ff10bc"},
		{api.Clock{0x12, 0x34, 0x56, 0x78, 0x9a, 0xbc, 0xde, 0xf0}, "123456789abcdef0"},
	} {
		if s := ident.Text(x.c); s != x.want {
			t.Errorf("P4.2: Text(%x): %s", x.c, s)
		}
		if c, is := ident.Read(x.want); c != x.c || !is {
			t.Errorf("P4.2: Read(%s): %x %v", x.want, c, is)
		}
	}
}

func TestTextOfEachByte(t *testing.T) {
	for i := range 8 {
		for n := range 256 {
			c := api.Clock{9, 8, 7, 6, 5, 4, 3, 2}
			c[i] = byte(n)
			if s := ident.Text(c); s != fmt.Sprintf("%x", c[:]) {
				t.Errorf("P4.2: Text(%x): %s", c, s)
			}
		}
	}
}

func checkNoText(t *testing.T, s string) {
	t.Helper()
	if c, is := ident.Read(s); is || c != (api.Clock{}) {
		t.Errorf("P4.2: Read(%q): %x %v", s, c, is)
	}
}

func TestReadOfOtherLengths(t *testing.T) {
	for n := range 40 {
		if n != 16 {
			checkNoText(t, strings.Repeat("0", n))
			checkNoText(t, strings.Repeat("a", n))
		}
	}
	checkNoText(t, strings.Repeat("12345678", 1<<17))
	for _, s := range []string{"0x02030405060708", "010203040506070", "01020304050607081", "0102030405060708 ", " 0102030405060708", "0102030405060708\n", "01:02:03:04:05:06:07:08", "01-02-03-04-05-06-07-08"} {
		checkNoText(t, s)
	}
}

// TestReadOfOtherSigns sets each byte that is no digit at each place, capital letters among them.
func TestReadOfOtherSigns(t *testing.T) {
	for i := range 16 {
		for n := range 256 {
			b := []byte("0123456789abcdef")
			b[i] = byte(n)
			isDigit := '0' <= n && n <= '9' || 'a' <= n && n <= 'f'
			if !isDigit {
				checkNoText(t, string(b))
			} else if c, is := ident.Read(string(b)); !is || ident.Text(c) != string(b) {
				t.Errorf("P4.2: Read(%q): %x %v", b, c, is)
			}
		}
	}
	for _, s := range []string{"FFFFFFFFFFFFFFFF", "ABCDEFABCDEFABCD", "010203040506070A", "0x02030405060708", "+102030405060708", "-102030405060708", "01020304_5060708", "\u00e9\u00e9\u00e9\u00e9\u00e9\u00e9\u00e9\u00e9", "                ", strings.Repeat("\x00", 16)} {
		checkNoText(t, s)
	}
}

func TestPutByHand(t *testing.T) {
	for _, x := range []struct {
		p    api.Port
		want string
	}{
		{api.Port{}, "00000000000000000000"},
		{api.Port{Clock: api.Clock{1, 2, 3, 4, 5, 6, 7, 8}, Number: 258}, "01020304050607080102"},
		{api.Port{Clock: api.Clock{1, 2, 3, 4, 5, 6, 7, 8}, Number: 0}, "01020304050607080000"},
		{api.Port{Clock: api.Clock{1, 2, 3, 4, 5, 6, 7, 8}, Number: 1}, "01020304050607080001"},
		{api.Port{Clock: api.Clock{1, 2, 3, 4, 5, 6, 7, 8}, Number: 255}, "010203040506070800ff"},
		{api.Port{Clock: api.Clock{1, 2, 3, 4, 5, 6, 7, 8}, Number: 256}, "01020304050607080100"},
		{api.Port{Clock: api.Clock{1, 2, 3, 4, 5, 6, 7, 8}, Number: 65280}, "0102030405060708ff00"},
		{api.Port{Clock: api.Clock{}, Number: maxNumber}, "0000000000000000ffff"},
		{api.Port{Clock: api.Clock{0xff, 0xff, 0xff, 0xff, 0xff, 0xff, 0xff, 0xff}, Number: maxNumber}, "ffffffffffffffffffff"},
		{api.Port{Clock: api.Clock{0xff, 0, 0xff, 0, 0, 0, 0, 0xff}, Number: 0}, "ff00ff00000000ff0000"},
	} {
		b, is := ident.Put(x.p)
		if fmt.Sprintf("%x", b) != x.want || !is {
			t.Errorf("P4.2: Put(%v): %x %v", x.p, b, is)
		}
		if p, is := ident.Get(b); p != x.p || !is {
			t.Errorf("P4.2: Get(%x): %v %v", b, p, is)
		}
	}
}

func TestPutOfWrongNumbers(t *testing.T) {
	for _, c := range edgeClocks() {
		for _, n := range wrongNumbers() {
			if b, is := ident.Put(api.Port{Clock: c, Number: n}); is || b != nil {
				t.Errorf("P4.2: Put(%x, %d): %x %v", c, n, b, is)
			}
		}
	}
}

func TestPutAndGetOfAllNumbers(t *testing.T) {
	c := api.Clock{0, 0x1b, 0x19, 0xff, 0xfe, 0xaa, 0xbb, 0xcc}
	for n := range maxNumber + 1 {
		b, is := ident.Put(api.Port{Clock: c, Number: n})
		if want := append(c[:], byte(n/256), byte(n%256)); !is || !bytes.Equal(b, want) {
			t.Fatalf("P4.2: Put of the Number %d: %x %v", n, b, is)
		}
		if p, is := ident.Get(b); !is || p != (api.Port{Clock: c, Number: n}) {
			t.Fatalf("P4.3: Get(%x): %v %v", b, p, is)
		}
	}
}

func TestGetOfOtherLengths(t *testing.T) {
	if p, is := ident.Get(nil); is || p != (api.Port{}) {
		t.Errorf("P4.2: Get of none: %v %v", p, is)
	}
	for n := range 64 {
		for _, fill := range []byte{0, 1, 0xff} {
			// There is room behind it that does not count.
			b := append(bytes.Repeat([]byte{fill}, n), 1, 2, 3, 4, 5, 6, 7, 8, 9, 10)[:n]
			p, is := ident.Get(b)
			if is != (n == 10) || !is && p != (api.Port{}) {
				t.Errorf("P4.2: Get of %d bytes %02x: %v %v", n, fill, p, is)
			}
		}
	}
	if p, is := ident.Get(make([]byte, 1<<20)); is || p != (api.Port{}) {
		t.Errorf("P4.2: Get of too many bytes: %v %v", p, is)
	}
}

// TestGetOfEachByte has each byte at 00 to ff: each of them is read, and none is refused.
func TestGetOfEachByte(t *testing.T) {
	for i := range 10 {
		for n := range 256 {
			b := []byte{1, 2, 3, 4, 5, 6, 7, 8, 9, 10}
			b[i] = byte(n)
			p, is := ident.Get(b)
			if want := (api.Port{Clock: api.Clock(b[:8]), Number: 256*int(b[8]) + int(b[9])}); !is || p != want {
				t.Errorf("P4.2: Get(%x): %v %v", b, p, is)
			}
			if o, is := ident.Put(p); !is || !bytes.Equal(o, b) {
				t.Errorf("P4.2: Put(%v): %x, not %x", p, o, b)
			}
		}
	}
}

func TestOf(t *testing.T) {
	for _, x := range []struct {
		mac  [6]byte
		want string
	}{
		{[6]byte{0, 0x1b, 0x19, 0xaa, 0xbb, 0xcc}, "001b19fffeaabbcc"},
		{[6]byte{1, 2, 3, 4, 5, 6}, "010203fffe040506"},
		{[6]byte{}, "000000fffe000000"},
		{[6]byte{0xff, 0xff, 0xff, 0xff, 0xff, 0xff}, "fffffffffeffffff"},
		{[6]byte{0, 0, 0, 0xff, 0xff, 0xff}, "000000fffeffffff"},
	} {
		if s := fmt.Sprintf("%x", ident.Of(x.mac)); s != x.want {
			t.Errorf("P4.2: Of(%x): %s", x.mac, s)
		}
	}
}
