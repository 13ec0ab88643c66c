package stamp_test

import (
	"math"
	"math/big"
	"testing"

	"horologe/api"
	"horologe/stamp"
)

const (
	top    = 1 << 62
	second = 1000000000
	secs   = 1 << 48
)

// topStamp is that of top nanoseconds.
func topStamp() stamp.Stamp { return stamp.Stamp{Sec: 4611686018, Ns: 427387904} }

// rightStamps are right ones at the bounds, and where bytes, seconds and Most turn over; they rise.
func rightStamps() []stamp.Stamp {
	return []stamp.Stamp{
		{Sec: 0, Ns: 0}, {Sec: 0, Ns: 1}, {Sec: 0, Ns: 255}, {Sec: 0, Ns: 256}, {Sec: 0, Ns: 1 << 24}, {Sec: 0, Ns: second - 1},
		{Sec: 1, Ns: 0}, {Sec: 1, Ns: 1}, {Sec: 2, Ns: 0}, {Sec: 255, Ns: second - 1}, {Sec: 256, Ns: 0}, {Sec: 1<<32 - 1, Ns: 5}, {Sec: 1 << 32, Ns: 4},
		{Sec: 4611686018, Ns: 427387903}, topStamp(), {Sec: 4611686018, Ns: 427387905}, {Sec: 4611686019, Ns: 0}, {Sec: 1 << 40, Ns: 0},
		{Sec: secs - 1, Ns: 0}, {Sec: secs - 1, Ns: second - 1},
	}
}

func wrongStamps() []stamp.Stamp {
	return []stamp.Stamp{
		{Sec: -1, Ns: 0}, {Sec: secs, Ns: 0}, {Sec: 0, Ns: -1}, {Sec: 0, Ns: second}, {Sec: secs - 1, Ns: second}, {Sec: secs, Ns: second - 1},
		{Sec: -1, Ns: second}, {Sec: 1, Ns: -second}, {Sec: math.MinInt, Ns: 0}, {Sec: math.MaxInt, Ns: 0}, {Sec: 0, Ns: math.MinInt}, {Sec: 0, Ns: math.MaxInt},
		{Sec: math.MinInt, Ns: math.MinInt}, {Sec: math.MaxInt, Ns: math.MaxInt},
	}
}

// mixed are numbers of all lengths, made by a rule, alike at every run.
func mixed(count int) []int {
	l := make([]int, count)
	x := uint64(88172645463325252)
	for i := range l {
		x ^= x << 13
		x ^= x >> 7
		x ^= x << 17
		l[i] = int(x) >> (i % 63)
	}
	return l
}

// mixedStamps are right ones, with seconds of all lengths.
func mixedStamps(count int) []stamp.Stamp {
	l := make([]stamp.Stamp, count)
	for i, n := range mixed(count) {
		l[i] = stamp.Stamp{Sec: int(uint64(n) >> 16 >> (i % 48)), Ns: int(uint64(n) % second)}
	}
	return l
}

// exact is how many nanoseconds a stamp has, be it right or not.
func exact(s stamp.Stamp) *big.Int {
	n := new(big.Int).Mul(big.NewInt(int64(s.Sec)), big.NewInt(second))
	return n.Add(n, big.NewInt(int64(s.Ns)))
}

func TestRight(t *testing.T) {
	for _, s := range rightStamps() {
		if !stamp.Right(s) {
			t.Errorf("P2.1: %v is not right", s)
		}
	}
	for _, s := range wrongStamps() {
		if stamp.Right(s) {
			t.Errorf("P2.1: %v is right", s)
		}
	}
}

func TestOfByHand(t *testing.T) {
	for _, x := range []struct {
		n    int
		want stamp.Stamp
		is   bool
	}{
		{0, stamp.Stamp{}, true},
		{1, stamp.Stamp{Ns: 1}, true},
		{second - 1, stamp.Stamp{Ns: second - 1}, true},
		{second, stamp.Stamp{Sec: 1}, true},
		{second + 1, stamp.Stamp{Sec: 1, Ns: 1}, true},
		{2*second - 1, stamp.Stamp{Sec: 1, Ns: second - 1}, true},
		{top - 1, stamp.Stamp{Sec: 4611686018, Ns: 427387903}, true},
		{top, topStamp(), true},
		{top + 1, stamp.Stamp{}, false},
		{math.MaxInt, stamp.Stamp{}, false},
		{-1, stamp.Stamp{}, false},
		{-second, stamp.Stamp{}, false},
		{-top, stamp.Stamp{}, false},
		{math.MinInt, stamp.Stamp{}, false},
	} {
		if s, is := stamp.Of(x.n); s != x.want || is != x.is {
			t.Errorf("P2.1: Of(%d): %v %v", x.n, s, is)
		}
	}
}

func checkNanos(t *testing.T, s stamp.Stamp, right bool) {
	t.Helper()
	want, has := 0, false
	if n := exact(s); right && n.Cmp(big.NewInt(top)) <= 0 {
		want, has = int(n.Int64()), true
	}
	if n, is := stamp.Nanos(s); n != want || is != has {
		t.Errorf("P2.1: Nanos(%v): %d %v", s, n, is)
	}
}

func TestNanos(t *testing.T) {
	if n, is := stamp.Nanos(stamp.Stamp{Sec: 2, Ns: 5}); n != 2000000005 || !is {
		t.Error("P2.1: Nanos(2, 5):", n, is)
	}
	for _, s := range append(rightStamps(), mixedStamps(5000)...) {
		checkNanos(t, s, true)
	}
	for _, s := range wrongStamps() {
		checkNanos(t, s, false)
	}
	// These wrap round to small numbers where they are reckoned carelessly.
	checkNanos(t, stamp.Stamp{Sec: 18446744074, Ns: 0}, true)
	checkNanos(t, stamp.Stamp{Sec: 1 << 47, Ns: 7}, true)
}

func TestLessByHand(t *testing.T) {
	for _, x := range []struct {
		a, b stamp.Stamp
		want bool
	}{
		{stamp.Stamp{}, stamp.Stamp{}, false},
		{stamp.Stamp{Sec: 1, Ns: 9}, stamp.Stamp{Sec: 2}, true},
		{stamp.Stamp{Sec: 2}, stamp.Stamp{Sec: 1, Ns: 9}, false},
		{stamp.Stamp{Sec: 2, Ns: 1}, stamp.Stamp{Sec: 2, Ns: 2}, true},
		{stamp.Stamp{Sec: 2, Ns: 2}, stamp.Stamp{Sec: 2, Ns: 1}, false},
		{stamp.Stamp{Sec: 2, Ns: 2}, stamp.Stamp{Sec: 2, Ns: 2}, false},
		// Fields are asked as they stand, even where the stamps are not right.
		{stamp.Stamp{Sec: 1, Ns: 5 * second}, stamp.Stamp{Sec: 2, Ns: -1}, true},
		{stamp.Stamp{Sec: math.MinInt, Ns: math.MaxInt}, stamp.Stamp{Sec: math.MaxInt, Ns: math.MinInt}, true},
		{stamp.Stamp{Sec: math.MaxInt, Ns: math.MinInt}, stamp.Stamp{Sec: math.MaxInt, Ns: math.MaxInt}, true},
		{stamp.Stamp{Sec: math.MaxInt, Ns: math.MinInt}, stamp.Stamp{Sec: math.MinInt, Ns: math.MaxInt}, false},
	} {
		if is := stamp.Less(x.a, x.b); is != x.want {
			t.Errorf("P2.1: Less(%v, %v): %v", x.a, x.b, is)
		}
	}
}

func TestPutByHand(t *testing.T) {
	for _, x := range []struct {
		s    stamp.Stamp
		want string
	}{
		{stamp.Stamp{}, "\x00\x00\x00\x00\x00\x00\x00\x00\x00\x00"},
		{stamp.Stamp{Sec: 1, Ns: 2}, "\x00\x00\x00\x00\x00\x01\x00\x00\x00\x02"},
		{stamp.Stamp{Sec: 0x010203040506, Ns: 0x0a0b0c0d}, "\x01\x02\x03\x04\x05\x06\x0a\x0b\x0c\x0d"},
		{stamp.Stamp{Sec: 0xf1e2d3c4b5a6, Ns: 0x3798a9ba}, "\xf1\xe2\xd3\xc4\xb5\xa6\x37\x98\xa9\xba"},
		{stamp.Stamp{Sec: secs - 1, Ns: second - 1}, "\xff\xff\xff\xff\xff\xff\x3b\x9a\xc9\xff"},
	} {
		if b, e := stamp.Put(x.s); string(b) != x.want || e != api.OK {
			t.Errorf("P2.2: Put(%v): %x %d", x.s, b, e)
		}
		if s, e := stamp.Get([]byte(x.want)); s != x.s || e != api.OK {
			t.Errorf("P2.2: Get(%x): %v %d", x.want, s, e)
		}
	}
}

func TestPutRefuses(t *testing.T) {
	for _, s := range wrongStamps() {
		if b, e := stamp.Put(s); len(b) != 0 || e != api.ErrStampForm {
			t.Errorf("P2.2: Put(%v): %x %d", s, b, e)
		}
	}
}

func TestGetRefuses(t *testing.T) {
	l := []string{
		"\x00\x00\x00\x00\x00\x00\x3b\x9a\xca\x00",
		"\x00\x00\x00\x00\x00\x00\x80\x00\x00\x00",
		"\x00\x00\x00\x00\x00\x01\xff\xff\xff\xff",
		"\xff\xff\xff\xff\xff\xff\xff\xff\xff\xff",
	}
	for n := range 40 {
		if n != 10 {
			l = append(l, string(make([]byte, n)))
		}
	}
	for _, b := range l {
		if s, e := stamp.Get([]byte(b)); s != (stamp.Stamp{}) || e != api.ErrStampForm {
			t.Errorf("P2.2: Get(%x): %v %d", b, s, e)
		}
	}
	if s, e := stamp.Get(nil); s != (stamp.Stamp{}) || e != api.ErrStampForm {
		t.Error("P2.2: Get(nil):", s, e)
	}
}

func TestBytesAreTheCallersOwn(t *testing.T) {
	s := stamp.Stamp{Sec: 3, Ns: 4}
	first, _ := stamp.Put(s)
	for i := range first {
		first[i] = 0xff
	}
	second, e := stamp.Put(s)
	if string(second) != "\x00\x00\x00\x00\x00\x03\x00\x00\x00\x04" || e != api.OK {
		t.Errorf("R6: Put tells what was written into: %x %d", second, e)
	}
	if first[0] != 0xff || first[9] != 0xff {
		t.Errorf("R6: Put wrote into what it told earlier: %x", first)
	}
	if got, e := stamp.Get(second); got != s || e != api.OK || string(second) != "\x00\x00\x00\x00\x00\x03\x00\x00\x00\x04" {
		t.Errorf("R5: Get changed its bytes: %x %v %d", second, got, e)
	}
}

func TestScaledByHand(t *testing.T) {
	for _, x := range []struct {
		n, want int
		is      bool
	}{
		{0, 0, true},
		{1, 65536, true},
		{-1, -65536, true},
		{5, 327680, true},
		{1<<47 - 1, math.MaxInt - 65535, true},
		{-1 << 47, math.MinInt, true},
		{1 << 47, 0, false},
		{-1<<47 - 1, 0, false},
		// Shifted carelessly, these come to 0, to 2^16 and to -2^16.
		{1 << 48, 0, false},
		{1<<48 + 1, 0, false},
		{-1<<48 - 1, 0, false},
		{top, 0, false},
		{-top, 0, false},
		{math.MaxInt, 0, false},
		{math.MinInt, 0, false},
	} {
		if n, is := stamp.Scaled(x.n); n != x.want || is != x.is {
			t.Errorf("P2.3: Scaled(%d): %d %v", x.n, n, is)
		}
	}
}

func TestDownUpByHand(t *testing.T) {
	for _, x := range []struct{ scaled, down, up int }{
		{0, 0, 0},
		{1, 0, 1},
		{-1, -1, 0},
		{65535, 0, 1},
		{-65535, -1, 0},
		{65536, 1, 1},
		{-65536, -1, -1},
		{65537, 1, 2},
		{-65537, -2, -1},
		{math.MaxInt, 1<<47 - 1, 1 << 47},
		{math.MaxInt - 65535, 1<<47 - 1, 1<<47 - 1},
		{math.MaxInt - 65536, 1<<47 - 2, 1<<47 - 1},
		{math.MinInt, -1 << 47, -1 << 47},
		{math.MinInt + 1, -1 << 47, 1 - 1<<47},
	} {
		if n := stamp.Down(x.scaled); n != x.down {
			t.Errorf("P2.3: Down(%d): %d", x.scaled, n)
		}
		if n := stamp.Up(x.scaled); n != x.up {
			t.Errorf("P2.3: Up(%d): %d", x.scaled, n)
		}
	}
}

func TestScalesAgainstExactNumbers(t *testing.T) {
	unit := big.NewInt(65536)
	for _, n := range mixed(20000) {
		x := big.NewInt(int64(n))
		want, has := 0, false
		if s := new(big.Int).Mul(x, unit); s.IsInt64() {
			want, has = int(s.Int64()), true
		}
		if s, is := stamp.Scaled(n); s != want || is != has {
			t.Errorf("P2.3: Scaled(%d): %d %v", n, s, is)
		}
		// Div rounds down, as the unit is above 0.
		if down := new(big.Int).Div(x, unit); stamp.Down(n) != int(down.Int64()) {
			t.Errorf("P2.3: Down(%d): %d", n, stamp.Down(n))
		}
		up := new(big.Int).Add(x, big.NewInt(65535))
		if up.Div(up, unit); stamp.Up(n) != int(up.Int64()) {
			t.Errorf("P2.3: Up(%d): %d", n, stamp.Up(n))
		}
	}
}

func checkBytesBack(t *testing.T, s stamp.Stamp) {
	t.Helper()
	b, e := stamp.Put(s)
	if e != api.OK || len(b) != 10 {
		t.Errorf("P2.2: Put(%v): %x %d", s, b, e)
	}
	if got, e := stamp.Get(b); got != s || e != api.OK {
		t.Errorf("P2.4: Get(Put(%v)): %v %d", s, got, e)
	}
}

func TestThereAndBack(t *testing.T) {
	for _, s := range append(rightStamps(), mixedStamps(20000)...) {
		checkBytesBack(t, s)
	}
	for _, m := range append(mixed(20000), 0, 1, second-1, second, top-1, top) {
		n := int(uint64(m) % (top + 1))
		s, is := stamp.Of(n)
		if !is || !stamp.Right(s) {
			t.Errorf("P2.1: Of(%d): %v %v", n, s, is)
		}
		if got, is := stamp.Nanos(s); got != n || !is {
			t.Errorf("P2.4: Nanos(Of(%d)): %d %v", n, got, is)
		}
	}
	for _, n := range append(mixed(20000), 0, 1, -1, 1<<47-1, -1<<47) {
		scaled, is := stamp.Scaled(n)
		if is && (stamp.Down(scaled) != n || stamp.Up(scaled) != n) {
			t.Errorf("P2.4: Down and Up of Scaled(%d): %d, %d", n, stamp.Down(scaled), stamp.Up(scaled))
		}
	}
}

func TestLessIsAnOrder(t *testing.T) {
	rising := rightStamps()
	for i, a := range rising {
		for j, b := range rising {
			if is := stamp.Less(a, b); is != (i < j) {
				t.Errorf("P2.4: Less(%v, %v): %v", a, b, is)
			}
		}
	}
	l := append(mixedStamps(120), rising...)
	for _, a := range l {
		for _, b := range l {
			if is := stamp.Less(a, b); is != (exact(a).Cmp(exact(b)) < 0) {
				t.Errorf("P2.4: Less(%v, %v): %v, not as the nanoseconds", a, b, is)
			}
		}
	}
	all := append(wrongStamps(), l[:30]...)
	for _, a := range all {
		for _, b := range all {
			checkOrder(t, a, b, all)
		}
	}
}

func checkOrder(t *testing.T, a, b stamp.Stamp, all []stamp.Stamp) {
	t.Helper()
	less, more := stamp.Less(a, b), stamp.Less(b, a)
	if less && more || (a == b) == (less || more) {
		t.Errorf("P2.4: Less of %v and %v: %v, and the other way %v", a, b, less, more)
	}
	for _, c := range all {
		if less && stamp.Less(b, c) && !stamp.Less(a, c) {
			t.Errorf("P2.4: Less(%v, %v): false, though %v is between", a, c, b)
		}
	}
}
