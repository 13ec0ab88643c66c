package leap_test

import (
	"testing"

	"horologe/civil"
	"horologe/leap"
)

// nextSecond is what follows a label by the words alone, told whether a day ends with a leap.
func nextSecond(l civil.Label, sign int) civil.Label {
	last := 59 + sign
	if l.Hour != 23 || l.Min != 59 {
		last = 59
	}
	if l.Sec < last {
		l.Sec++
		return l
	}
	l.Sec = 0
	if l.Min < 59 {
		l.Min++
		return l
	}
	l.Min = 0
	if l.Hour < 23 {
		l.Hour++
		return l
	}
	l.Hour = 0
	if l.Day < civil.Long(l.Year, l.Month) {
		l.Day++
		return l
	}
	l.Day = 1
	if l.Month < 12 {
		l.Month++
		return l
	}
	l.Month = 1
	l.Year++
	return l
}

func numberOf(l civil.Label) int {
	n, _ := civil.Day(l.Year, l.Month, l.Day)
	return n
}

// half tells in which half of which day a label is.
func half(l civil.Label) int { return 2*numberOf(l) + l.Hour/12 }

// walk goes from a time on, second by second, over so many of them, with what holds of each and of the one behind it.
func walk(t *testing.T, x *leap.Table, signs map[int]int, from, long int) {
	t.Helper()
	l, is := x.Label(from)
	if !is {
		t.Fatalf("P16.5: no label of %d to go on from", from)
	}
	offset, noted := x.Offset(from), x.Note(from)
	for tai := from + 1; tai <= from+long; tai++ {
		sign := signs[numberOf(l)]
		next := nextSecond(l, sign)
		got, is := x.Label(tai)
		if got != next || !is || !civil.Less(l, got) {
			t.Fatalf("P16.5: Label(%d): %v, %v, not %v", tai, got, is, next)
		}
		if n, is := x.Tai(got); n != tai || !is {
			t.Fatalf("P16.5: Tai(%v): %d, %v, not %d", got, n, is, tai)
		}
		if next.Sec == 0 && next.Hour == 0 && next.Min == 0 {
			offset += sign
		}
		if n := x.Offset(tai); n != offset {
			t.Fatalf("P16.5: Offset(%d): %d, not %d", tai, n, offset)
		}
		if half(l) != half(got) {
			noted = x.Note(tai)
		}
		if b, is := leap.By(noted, tai); b != got || !is {
			t.Fatalf("P16.5: By(%+v, %d): %v, %v, not %v", noted, tai, b, is, got)
		}
		if n := x.Note(tai); n != noted {
			t.Fatalf("P16.5: Note(%d): %+v, not %+v as all along this half of the day", tai, n, noted)
		}
		l = got
	}
}

func signsOf(l []leap.Leap) map[int]int {
	signs := map[int]int{}
	for _, x := range l {
		signs[x.Day] = x.Sign
	}
	return signs
}

func TestFirstDays(t *testing.T) {
	for _, l := range [][]leap.Leap{
		nil,
		{{Day: 1, Sign: 1}, {Day: 3, Sign: 1}, {Day: 5, Sign: -1}},
		{{Day: 1, Sign: -1}, {Day: 3, Sign: -1}, {Day: 5, Sign: 1}},
		{{Day: 2, Sign: 1}, {Day: 4, Sign: -1}, {Day: 6, Sign: 1}},
	} {
		walk(t, made(t, 0, l...), signsOf(l), 0, 8*daySeconds)
	}
}

func TestAroundLeaps(t *testing.T) {
	for _, sign := range []int{1, -1} {
		for _, first := range []int{0, 36, firstMost} {
			for _, day := range []int{1, 30, newYear, dayOf(t, "2000-02-28"), dayOf(t, "2000-02-29"), dayOf(t, "1999-12-31"), lastDay} {
				l := []leap.Leap{{Day: day, Sign: sign}}
				walk(t, made(t, first, l...), signsOf(l), day*daySeconds+daySeconds/2-10+first, daySeconds)
			}
		}
	}
}

// By tells the label of each second of a half by what was said at any second ahead of it in that half.
func TestByWhatWasSaid(t *testing.T) {
	const around = 30
	for _, sign := range []int{1, -1} {
		x := made(t, 36, leap.Leap{Day: newYear, Sign: sign})
		end := (newYear+1)*daySeconds + 36
		for _, mid := range []int{end, end - daySeconds/2, end + daySeconds/2, end - daySeconds} {
			for s := mid - around; s <= mid+around; s++ {
				from, _ := x.Label(s)
				for tai := s; ; tai++ {
					l, _ := x.Label(tai)
					if half(l) != half(from) || tai > s+2*around {
						break
					}
					if b, is := leap.By(x.Note(s), tai); b != l || !is {
						t.Fatalf("P16.5: By(Note(%d), %d): %v, %v, not %v", s, tai, b, is, l)
					}
				}
			}
		}
	}
}

// Of a whole half it is asked by what was said at its beginning, and of its end by what was said at each second of it.
func TestByWholeHalf(t *testing.T) {
	for _, sign := range []int{1, -1} {
		x := made(t, 36, leap.Leap{Day: newYear, Sign: sign})
		noon := newYear*daySeconds + daySeconds/2 + 36
		for _, begin := range []int{noon - daySeconds/2, noon, noon + daySeconds/2 + sign} {
			end := begin + daySeconds/2 - 1
			if begin == noon {
				end += sign
			}
			last, _ := x.Label(end)
			n := x.Note(begin)
			for tai := begin; tai <= end; tai++ {
				l, _ := x.Label(tai)
				if b, is := leap.By(n, tai); b != l || !is || half(l) != half(last) {
					t.Fatalf("P16.5: By(Note(%d), %d): %v, %v, not %v", begin, tai, b, is, l)
				}
				if b, is := leap.By(x.Note(tai), end); b != last || !is {
					t.Fatalf("P16.5: By(Note(%d), %d): %v, %v, not %v", tai, end, b, is, last)
				}
			}
			if l, _ := x.Label(end + 1); half(l) != half(last)+1 {
				t.Fatalf("P16.5: behind %v is %v", last, l)
			}
		}
	}
}
