package head

const (
	maxSeq   = 0xffff
	mostGone = 0x7fff // one short of half the way round, at which neither is behind the other
)

// Next is the number behind seq, round from the last one to 0; Behind tells whether a is behind b by the shorter way round.
func Next(seq int) int {
	if !rightSeq(seq) || seq == maxSeq {
		return 0
	}
	return seq + 1
}

func Behind(a, b int) bool {
	return rightSeq(a) && rightSeq(b) && within((a-b)&maxSeq, 1, mostGone)
}

func rightSeq(n int) bool { return within(n, 0, maxSeq) }
