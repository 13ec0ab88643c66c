package foreign

import "horologe/api"

// entry is what is known of a sender: what it said last, and when it was heard, the last time first.
type entry struct {
	set   api.Set
	times [api.Often]int
	count int // how many of the times it was heard at: the others are not to be taken for time 0
}

func (x entry) last() int { return x.times[0] }

// heard is the entry with one more time, in the place of the oldest one.
func (x entry) heard(s api.Set, now int) entry {
	copy(x.times[1:], x.times[:])
	x.times[0] = now
	x.set = s
	x.count = min(x.count+1, api.Often)
	return x
}

// often tells whether it was heard often enough, all these times behind start, and none of them behind now.
func (x entry) often(start, now int) bool {
	if x.count < api.Often {
		return false
	}
	for _, at := range x.times {
		if at <= start || at > now {
			return false
		}
	}
	return true
}
