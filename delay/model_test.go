package delay_test

import (
	"math"
	"math/big"
	"testing"

	"horologe/delay"
	"horologe/span"
)

// exact is what is known, by exact numbers: nil bounds are unknown.
type exact struct{ lo, hi *big.Int }

func number(n int) *big.Int { return big.NewInt(int64(n)) }

func isSmall(n *big.Int) bool { return n.CmpAbs(number(top)) <= 0 }

// kept is what may be told: bounds that are small.
func kept(lo, hi *big.Int) exact {
	if !isSmall(lo) || !isSmall(hi) {
		return exact{}
	}
	return exact{lo, hi}
}

func one(n int) exact { return kept(number(n), number(n)) }

func (e exact) plus(o exact) exact {
	if e.lo == nil || o.lo == nil {
		return exact{}
	}
	return kept(new(big.Int).Add(e.lo, o.lo), new(big.Int).Add(e.hi, o.hi))
}

func (e exact) less(o exact) exact {
	if e.lo == nil || o.lo == nil {
		return exact{}
	}
	return kept(new(big.Int).Sub(e.lo, o.hi), new(big.Int).Sub(e.hi, o.lo))
}

func (e exact) wider(times, gran int) exact {
	by := new(big.Int).Mul(number(times), number(gran))
	return e.plus(exact{new(big.Int).Neg(by), by})
}

func (e exact) meet(o exact) exact {
	if e.lo == nil {
		return o
	}
	if o.lo == nil {
		return e
	}
	lo, hi := e.lo, e.hi
	if o.lo.Cmp(lo) > 0 {
		lo = o.lo
	}
	if o.hi.Cmp(hi) < 0 {
		hi = o.hi
	}
	if lo.Cmp(hi) > 0 {
		return exact{}
	}
	return exact{lo, hi}
}

// halved goes by the division that rounds down, as Euclid's does for what is above 0.
func (e exact) halved() exact {
	if e.lo == nil {
		return e
	}
	two := number(2)
	up := new(big.Int).Add(e.hi, number(1))
	return exact{new(big.Int).Div(e.lo, two), new(big.Int).Div(up, two)}
}

func (e exact) told() span.Span {
	if e.lo == nil {
		return span.Span{}
	}
	return span.Span{Lo: int(e.lo.Int64()), Hi: int(e.hi.Int64()), Known: true}
}

// correction is from a number of 2^-16 nanoseconds, rounded down, to it rounded up.
func correction(corr int) exact {
	unit := number(fraction)
	up := new(big.Int).Add(number(corr), number(fraction-1))
	return exact{new(big.Int).Div(number(corr), unit), new(big.Int).Div(up, unit)}
}

func isRight(p delay.Path) bool {
	return p.Min >= 0 && p.Max >= p.Min && p.Max <= 10*second && p.Gran >= 0 && p.Gran <= second
}

func wantSync(p delay.Path, t1, corr, t2 int) exact {
	if !isRight(p) {
		return exact{}
	}
	d := exact{number(p.Min), number(p.Max)}
	return correction(corr).plus(d).wider(2, p.Gran).plus(one(t1)).less(one(t2))
}

func wantReq(p delay.Path, t3, corr, t4 int) exact {
	if !isRight(p) {
		return exact{}
	}
	d := exact{number(p.Min), number(p.Max)}
	return one(t4).less(correction(corr)).less(d).wider(2, p.Gran).less(one(t3))
}

func wantMean(p delay.Path, x [4]int, corr [2]int) exact {
	if !isRight(p) {
		return exact{}
	}
	there := one(x[1]).less(one(x[0])).less(correction(corr[0]))
	back := one(x[3]).less(one(x[2])).less(correction(corr[1]))
	return there.plus(back).wider(4, p.Gran).halved()
}

// counts says how many answers were known, and how many were not.
type counts struct{ known, unknown int }

func (c *counts) count(s span.Span) {
	if s.Known {
		c.known++
	} else {
		c.unknown++
	}
}

// check holds all that is told of an exchange against exact numbers; of Sync, Req, Both and Mean it counts what is known.
func check(t *testing.T, p delay.Path, x [4]int, corr [2]int, c *[4]counts) {
	t.Helper()
	there, back := wantSync(p, x[0], corr[0], x[1]), wantReq(p, x[2], corr[1], x[3])
	if s := delay.Sync(p, x[0], corr[0], x[1]); s != there.told() {
		t.Errorf("P13.1: Sync(%v, %d, %d, %d): %v, not %v", p, x[0], corr[0], x[1], s, there.told())
	}
	if s := delay.Req(p, x[2], corr[1], x[3]); s != back.told() {
		t.Errorf("P13.1: Req(%v, %d, %d, %d): %v, not %v", p, x[2], corr[1], x[3], s, back.told())
	}
	both, mean := there.meet(back), wantMean(p, x, corr)
	if s := delay.Both(p, x, corr); s != both.told() {
		t.Errorf("P13.2: Both(%v, %v, %v): %v, not %v", p, x, corr, s, both.told())
	}
	if s := delay.Mean(p, x, corr); s != mean.told() {
		t.Errorf("P13.2: Mean(%v, %v, %v): %v, not %v", p, x, corr, s, mean.told())
	}
	for i, e := range []exact{there, back, both, mean} {
		c[i].count(e.told())
	}
}

func checkCounts(t *testing.T, c [4]counts) {
	t.Helper()
	for i, n := range c {
		if n.known < 200 || n.unknown < 200 {
			t.Errorf("of the call %d too few were asked: %v", i, n)
		}
	}
}

// TestAgainstExactNumbersAtEdges has each of the times at each edge, with the others about it.
func TestAgainstExactNumbersAtEdges(t *testing.T) {
	var c [4]counts
	edges := []int{0, 1, -1, 1000, -1000, 10 * second, top / 2, top/2 + 1, -top / 2, -top/2 - 1, top - 10*second, top - 20, top - 1, top, top + 1, 1 - top, -top, -top - 1, math.MaxInt, math.MinInt}
	corrs := []int{0, 1, -1, fraction - 1, fraction, fraction + 1, -fraction, 1 - fraction, -1 - fraction, 20 * fraction, -20 * fraction, math.MaxInt, math.MinInt, math.MaxInt - fraction}
	paths := append(rightPaths(), wrongPaths()[:6]...)
	for i, a := range edges {
		for j, b := range edges {
			for k, n := range corrs {
				for _, p := range paths {
					o := corrs[(i+j+k)%len(corrs)]
					check(t, p, [4]int{a, b, b, a}, [2]int{n, o}, &c)
					check(t, p, [4]int{a, a, b, b}, [2]int{n, o}, &c)
				}
			}
		}
	}
	checkCounts(t, c)
}

// numbers is a rule that makes numbers, alike at every run.
func numbers(x uint64) func(n int) int {
	return func(n int) int {
		x ^= x << 13
		x ^= x >> 7
		x ^= x << 17
		return int(x >> 1 % uint64(n))
	}
}

// about makes numbers of all lengths, on either side of 0.
func about(take func(int) int) int {
	n := take(math.MaxInt) >> take(63)
	if take(2) == 0 {
		return -n - take(2)
	}
	return n
}

func TestAgainstExactNumbers(t *testing.T) {
	var c [4]counts
	take := numbers(88172645463325252)
	paths := append(rightPaths(), rightPaths()...)
	paths = append(paths, wrongPaths()...)
	for range 40000 {
		p := paths[take(len(paths))]
		if take(2) == 0 {
			p.Min = take(1000)
			p.Max = p.Min + take(1000)
			p.Gran = take(100)
		}
		x := [4]int{about(take), about(take), about(take), about(take)}
		// Where times are near each other both messages may tell the same.
		if take(2) == 0 {
			near := take(3000)
			x[1], x[2], x[3] = x[0]+take(3000)-near, x[0]+take(4000)-near, x[0]+take(5000)
		}
		check(t, p, x, [2]int{about(take), about(take)}, &c)
	}
	checkCounts(t, c)
}
