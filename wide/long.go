package wide

import "horologe/api"

const (
	halfBits = 32
	halfMask = 1<<halfBits - 1
)

// long is a number of up to 128 bits in halves of 32 bits, the lowest first. A half has 64 bits of room, so that a product of two halves with what is carried fits.
type long [4]uint64

// product is a b, for a and b not below 0.
func product(a, b int) long {
	x, y := halves(a), halves(b)
	var p long
	for i := range x {
		carry := uint64(0)
		for j := range y {
			sum := x[i]*y[j] + p[i+j] + carry
			p[i+j] = sum & halfMask
			carry = sum >> halfBits
		}
		p[i+len(y)] = carry
	}
	return p
}

func halves(n int) [2]uint64 {
	return [2]uint64{uint64(n) & halfMask, uint64(n) >> halfBits}
}

// divide is p / c, rounded down, and what is left; false, if that is above Most. c is 1 to Most: so the rest, which is below c, may be doubled.
func divide(p long, c uint64) (quotient, rest uint64, ok bool) {
division:
	for i := len(p) - 1; i >= 0; i-- {
		for bit := halfBits - 1; bit >= 0; bit-- {
			rest = rest<<1 | p[i]>>bit&1
			quotient <<= 1
			if rest >= c {
				rest -= c
				quotient++
			}
			// It never falls from here, and one more doubling might wrap round.
			if quotient > api.Most {
				break division
			}
		}
	}
	if quotient > api.Most {
		return 0, 0, false
	}
	return quotient, rest, true
}
