package wide_test

import (
	"math"
	"math/big"
	"slices"
	"testing"

	"horologe/api"
	"horologe/wide"
)

const top = 1 << 62

// edges are numbers at which halves, signs and bounds turn over; those beyond top are wrong inputs.
func edges() []int {
	l := []int{0, math.MaxInt, math.MinInt, math.MinInt + 1}
	for _, n := range []int{1, 2, 3, 7, 1000000, 1<<31 - 1, 1 << 31, 1<<31 + 1, 1<<32 - 1, 1 << 32, 1<<32 + 1, 1<<61 - 1, 1 << 61, top - 1, top, top + 1} {
		l = append(l, n, -n)
	}
	return l
}

// mixed are numbers of all lengths, made by a rule, alike at every run.
func mixed(count int) []int {
	l := make([]int, count)
	x := uint64(88172645463325252)
	for i := range l {
		x ^= x << 13
		x ^= x >> 7
		x ^= x << 17
		l[i] = int(x) >> (1 + i%63)
	}
	return l
}

func isSmall(l ...int) bool {
	for _, n := range l {
		if new(big.Int).Abs(big.NewInt(int64(n))).Cmp(big.NewInt(top)) > 0 {
			return false
		}
	}
	return true
}

func times(a, b int) *big.Int { return new(big.Int).Mul(big.NewInt(int64(a)), big.NewInt(int64(b))) }

// told is what is to be answered, if n is the exact number, and the arguments are right.
func told(n *big.Int, right bool) (int, bool) {
	if !right || new(big.Int).Abs(n).Cmp(big.NewInt(top)) > 0 {
		return 0, false
	}
	return int(n.Int64()), true
}

func wantFloor(a, b, c int) (int, bool) {
	if !isSmall(a, b, c) || c < 1 {
		return 0, false
	}
	// Div rounds down, as c is above 0.
	return told(new(big.Int).Div(times(a, b), big.NewInt(int64(c))), true)
}

func wantCeil(a, b, c int) (int, bool) {
	if !isSmall(a, b, c) || c < 1 {
		return 0, false
	}
	up := new(big.Int).Add(times(a, b), big.NewInt(int64(c-1)))
	return told(up.Div(up, big.NewInt(int64(c))), true)
}

func TestMost(t *testing.T) {
	if api.Most != top || api.Second != 1000000000 {
		t.Error("Limits: Most, Second:", api.Most, api.Second)
	}
}

func TestSmall(t *testing.T) {
	for _, x := range []struct {
		l    []int
		want bool
	}{
		{nil, true},
		{[]int{}, true},
		{[]int{0}, true},
		{[]int{top}, true},
		{[]int{-top}, true},
		{[]int{top + 1}, false},
		{[]int{-top - 1}, false},
		{[]int{math.MaxInt}, false},
		{[]int{math.MinInt}, false},
		{[]int{top, 0, -top}, true},
		{[]int{top + 1, 0, 0}, false},
		{[]int{0, -top - 1, 0}, false},
		{[]int{0, 0, top + 1}, false},
	} {
		if got := wide.Small(x.l...); got != x.want {
			t.Errorf("P1.1: Small(%v): %v", x.l, got)
		}
	}
}

func TestSmallLeavesItsNumbers(t *testing.T) {
	l := []int{3, top + 1, -5}
	wide.Small(l...)
	if !slices.Equal(l, []int{3, top + 1, -5}) {
		t.Error("R5: Small changed its numbers:", l)
	}
}

func TestAddSubMulByHand(t *testing.T) {
	type call func(a, b int) (int, bool)
	for _, x := range []struct {
		name string
		f    call
		a, b int
		want int
		is   bool
	}{
		{"Add", wide.Add, 1, 2, 3, true},
		{"Add", wide.Add, -1, -2, -3, true},
		{"Add", wide.Add, top, 0, top, true},
		{"Add", wide.Add, top, 1, 0, false},
		{"Add", wide.Add, top, top, 0, false},
		{"Add", wide.Add, -top, -1, 0, false},
		{"Add", wide.Add, -top, -top, 0, false},
		{"Add", wide.Add, -top, top, 0, true},
		{"Add", wide.Add, top + 1, -1, 0, false},
		{"Add", wide.Add, -1, top + 1, 0, false},
		{"Add", wide.Add, math.MinInt, math.MinInt, 0, false},
		{"Add", wide.Add, math.MaxInt, math.MinInt, 0, false},
		{"Sub", wide.Sub, 1, 2, -1, true},
		{"Sub", wide.Sub, -top, 0, -top, true},
		{"Sub", wide.Sub, -top, 1, 0, false},
		{"Sub", wide.Sub, top, -1, 0, false},
		{"Sub", wide.Sub, top, -top, 0, false},
		{"Sub", wide.Sub, -top, top, 0, false},
		{"Sub", wide.Sub, top, top, 0, true},
		{"Sub", wide.Sub, top + 1, 1, 0, false},
		{"Sub", wide.Sub, 1, top + 1, 0, false},
		{"Sub", wide.Sub, math.MinInt, math.MinInt, 0, false},
		{"Mul", wide.Mul, 3, -4, -12, true},
		{"Mul", wide.Mul, -3, -4, 12, true},
		{"Mul", wide.Mul, 0, -top, 0, true},
		{"Mul", wide.Mul, 1 << 31, 1 << 31, top, true},
		{"Mul", wide.Mul, 1 << 31, -1 << 31, -top, true},
		{"Mul", wide.Mul, 1<<31 + 1, 1 << 31, 0, false},
		{"Mul", wide.Mul, -1<<31 - 1, 1 << 31, 0, false},
		{"Mul", wide.Mul, 1 << 32, 1 << 32, 0, false},
		{"Mul", wide.Mul, top, top, 0, false},
		{"Mul", wide.Mul, top, 1, top, true},
		{"Mul", wide.Mul, top + 1, 0, 0, false},
		{"Mul", wide.Mul, 0, math.MinInt, 0, false},
	} {
		if n, is := x.f(x.a, x.b); n != x.want || is != x.is {
			t.Errorf("P1.1: %s(%d, %d): %d %v", x.name, x.a, x.b, n, is)
		}
	}
}

func checkPair(t *testing.T, a, b int) {
	t.Helper()
	right := isSmall(a, b)
	x, y := big.NewInt(int64(a)), big.NewInt(int64(b))
	if got, is := wide.Add(a, b); !same(got, is)(told(new(big.Int).Add(x, y), right)) {
		t.Errorf("P1.1: Add(%d, %d): %d %v", a, b, got, is)
	}
	if got, is := wide.Sub(a, b); !same(got, is)(told(new(big.Int).Sub(x, y), right)) {
		t.Errorf("P1.1: Sub(%d, %d): %d %v", a, b, got, is)
	}
	if got, is := wide.Mul(a, b); !same(got, is)(told(new(big.Int).Mul(x, y), right)) {
		t.Errorf("P1.1: Mul(%d, %d): %d %v", a, b, got, is)
	}
}

func same(n int, is bool) func(int, bool) bool {
	return func(m int, has bool) bool { return n == m && is == has }
}

func TestAddSubMulAgainstExactNumbers(t *testing.T) {
	for _, a := range edges() {
		for _, b := range edges() {
			checkPair(t, a, b)
		}
	}
	l := mixed(20001)
	for i := range len(l) - 1 {
		checkPair(t, l[i], l[i+1])
	}
}

func TestAbs(t *testing.T) {
	for _, x := range [][2]int{
		{0, 0}, {5, 5}, {-5, 5}, {top, top}, {-top, top}, {1 - top, top - 1},
		{top + 1, 0}, {-top - 1, 0}, {math.MaxInt, 0}, {math.MinInt, 0},
	} {
		if n := wide.Abs(x[0]); n != x[1] {
			t.Errorf("P1.1: Abs(%d): %d", x[0], n)
		}
	}
}

func TestClip(t *testing.T) {
	for _, x := range []struct{ a, low, high, want int }{
		{2, 1, 3, 2},
		{1, 1, 3, 1},
		{3, 1, 3, 3},
		{0, 1, 3, 1},
		{4, 1, 3, 3},
		{-9, -5, -2, -5},
		{0, -5, -2, -2},
		{2, 5, 3, 5},
		{4, 5, 3, 5},
		{6, 5, 3, 3},
		{math.MinInt, -top, top, -top},
		{math.MaxInt, -top, top, top},
		{math.MaxInt, math.MinInt, math.MaxInt, math.MaxInt},
		{0, math.MaxInt, math.MinInt, math.MaxInt},
	} {
		if n := wide.Clip(x.a, x.low, x.high); n != x.want {
			t.Errorf("P1.1: Clip(%d, %d, %d): %d", x.a, x.low, x.high, n)
		}
	}
}

func TestFloorCeilByHand(t *testing.T) {
	for _, x := range []struct {
		a, b, c, floor int
		is             bool
		ceil           int
		has            bool
	}{
		{7, 1, 2, 3, true, 4, true},
		{-7, 1, 2, -4, true, -3, true},
		{7, -1, 2, -4, true, -3, true},
		{-7, -1, 2, 3, true, 4, true},
		{-6, 1, 2, -3, true, -3, true},
		{0, -5, 3, 0, true, 0, true},
		{1, 1, top, 0, true, 1, true},
		{-1, 1, top, -1, true, 0, true},
		{top, top, top, top, true, top, true},
		{-top, top, top, -top, true, -top, true},
		{top, top, top - 1, 0, false, 0, false},
		{top, top, 1, 0, false, 0, false},
		{-top, top, 1, 0, false, 0, false},
		{1<<61 + 1, 4, 2, 0, false, 0, false},
		{top/2 + 1, top, top/2 + 1, top, true, top, true},
		// 13 divides 3 2^62 + 1: the exact number is 2^62 and a third, and one neighbour of it is small.
		{(3<<62 + 1) / 13, 13, 3, top, true, 0, false},
		{-(3<<62 + 1) / 13, 13, 3, 0, false, -top, true},
		// c must be 1 or above, and small.
		{5, 5, 0, 0, false, 0, false},
		{0, 0, 0, 0, false, 0, false},
		{5, 5, -1, 0, false, 0, false},
		{5, 5, -top, 0, false, 0, false},
		{5, 5, math.MinInt, 0, false, 0, false},
		{5, 5, top + 1, 0, false, 0, false},
		{0, 0, math.MaxInt, 0, false, 0, false},
		{top + 1, 0, 1, 0, false, 0, false},
		{0, top + 1, 1, 0, false, 0, false},
		{-top - 1, 1, 2, 0, false, 0, false},
		{math.MinInt, 1, 4, 0, false, 0, false},
		{1, math.MinInt, 4, 0, false, 0, false},
	} {
		if n, is := wide.Floor(x.a, x.b, x.c); n != x.floor || is != x.is {
			t.Errorf("P1.2: Floor(%d, %d, %d): %d %v", x.a, x.b, x.c, n, is)
		}
		if n, is := wide.Ceil(x.a, x.b, x.c); n != x.ceil || is != x.has {
			t.Errorf("P1.2: Ceil(%d, %d, %d): %d %v", x.a, x.b, x.c, n, is)
		}
	}
}

func checkTriple(t *testing.T, a, b, c int) {
	t.Helper()
	if got, is := wide.Floor(a, b, c); !same(got, is)(wantFloor(a, b, c)) {
		t.Errorf("P1.2: Floor(%d, %d, %d): %d %v", a, b, c, got, is)
	}
	if got, is := wide.Ceil(a, b, c); !same(got, is)(wantCeil(a, b, c)) {
		t.Errorf("P1.2: Ceil(%d, %d, %d): %d %v", a, b, c, got, is)
	}
}

func TestFloorCeilAgainstExactNumbers(t *testing.T) {
	for _, a := range edges() {
		for _, b := range edges() {
			for _, c := range edges() {
				checkTriple(t, a, b, c)
			}
		}
	}
	l := mixed(20002)
	for i := range len(l) - 2 {
		checkTriple(t, l[i], l[i+1], l[i+2])
		// A divisor as long as a brings most of the quotients back to small ones.
		checkTriple(t, l[i], l[i+1], max(1, l[i], -l[i])/2+1)
	}
}

func checkFollows(t *testing.T, a, b, c int) {
	t.Helper()
	down, is := wide.Floor(a, b, c)
	up, has := wide.Ceil(a, b, c)
	if is && has {
		even := new(big.Int).Mod(times(a, b), big.NewInt(int64(c))).Sign() == 0
		if even && up != down || !even && up != down+1 {
			t.Errorf("P1.3: Floor and Ceil of (%d, %d, %d): %d, %d", a, b, c, down, up)
		}
	}
	if !isSmall(a, b, c) {
		return
	}
	if n, has := wide.Ceil(-a, b, c); n != -down || has != is {
		t.Errorf("P1.3: Floor(%d, %d, %d) %d %v, Ceil of its negative %d %v", a, b, c, down, is, n, has)
	}
	if n, is := wide.Floor(a, c, c); c >= 1 && (n != a || !is) {
		t.Errorf("P1.3: Floor(%d, %d, %d): %d %v", a, c, c, n, is)
	}
}

func TestWhatFollows(t *testing.T) {
	for _, a := range edges() {
		for _, b := range edges() {
			for _, c := range edges() {
				checkFollows(t, a, b, c)
			}
		}
	}
	l := mixed(20002)
	for i := range len(l) - 2 {
		checkFollows(t, l[i], l[i+1], l[i+2])
	}
}
