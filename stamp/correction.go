package stamp

// scaleBits: a correction is a number of 2^-16 nanoseconds. It may be any int, small or not, so it is shifted: wide would refuse the great ones.
const scaleBits = 16

// Scaled is the correction of n nanoseconds, with false, if there is none.
func Scaled(n int) (int, bool) {
	scaled := n << scaleBits
	// If a bit was lost at the top, or the sign turned, the way back leads elsewhere.
	if Down(scaled) != n {
		return 0, false
	}
	return scaled, true
}

// Down is a correction in whole nanoseconds, rounded down; Up is it rounded up.
func Down(scaled int) int { return scaled >> scaleBits }

func Up(scaled int) int {
	n := Down(scaled)
	// The sign is never turned, as that of the least int can't be.
	if n<<scaleBits != scaled {
		n++
	}
	return n
}
