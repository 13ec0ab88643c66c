package leap_test

import (
	"math"
	"testing"

	"horologe/leap"
)

func said(offset int) leap.Note   { return leap.Note{Offset: offset, Valid: true} }
func said61(offset int) leap.Note { return leap.Note{Offset: offset, Leap61: true, Valid: true} }
func said59(offset int) leap.Note { return leap.Note{Offset: offset, Leap59: true, Valid: true} }

func TestNote61(t *testing.T) {
	x := made(t, 36, leap.Leap{Day: newYear, Sign: 1})
	noon := newYear*daySeconds + daySeconds/2 + 36
	for _, c := range []struct {
		tai  int
		want leap.Note
	}{
		{36, said(36)}, {noon - daySeconds, said(36)}, {noon - daySeconds/2 - 1, said(36)}, {noon - daySeconds/2, said(36)},
		{noon - 1, said(36)}, {noon, said61(36)}, {noon + 1, said61(36)},
		{noon + daySeconds/2 - 1, said61(36)}, {noon + daySeconds/2, said61(36)}, {noon + daySeconds/2 + 1, said(37)},
		{noon + daySeconds, said(37)}, {noon + daySeconds + 1, said(37)},
	} {
		checkNote(t, x, c.tai, c.want)
	}
}

// The half of a day that ends with a leap begins at noon, though that one has a second less.
func TestNote59(t *testing.T) {
	x := made(t, 36, leap.Leap{Day: newYear, Sign: -1})
	noon := newYear*daySeconds + daySeconds/2 + 36
	for _, c := range []struct {
		tai  int
		want leap.Note
	}{
		{noon - daySeconds, said(36)}, {noon - daySeconds/2, said(36)},
		{noon - 2, said(36)}, {noon - 1, said(36)}, {noon, said59(36)}, {noon + 1, said59(36)},
		{noon + daySeconds/2 - 2, said59(36)}, {noon + daySeconds/2 - 1, said(35)}, {noon + daySeconds/2, said(35)},
		{noon + daySeconds, said(35)},
	} {
		checkNote(t, x, c.tai, c.want)
	}
}

func TestNoteOfMany(t *testing.T) {
	x := made(t, 0, leap.Leap{Day: 1, Sign: -1}, leap.Leap{Day: 3, Sign: 1}, leap.Leap{Day: 5, Sign: -1})
	const noon = daySeconds / 2
	for _, c := range []struct {
		tai  int
		want leap.Note
	}{
		{0, said(0)}, {noon, said(0)}, {daySeconds + noon - 1, said(0)}, {daySeconds + noon, said59(0)},
		{2*daySeconds - 1, said(-1)}, {2*daySeconds + noon, said(-1)}, {3*daySeconds + noon - 2, said(-1)}, {3*daySeconds + noon - 1, said61(-1)},
		{4*daySeconds - 1, said61(-1)}, {4 * daySeconds, said(0)}, {5*daySeconds + noon - 1, said(0)}, {5*daySeconds + noon, said59(0)},
		{6*daySeconds - 2, said59(0)}, {6*daySeconds - 1, said(-1)}, {7*daySeconds + noon, said(-1)},
	} {
		checkNote(t, x, c.tai, c.want)
	}
}

func TestNoNote(t *testing.T) {
	x := made(t, 36, leap.Leap{Day: 1, Sign: 1}, leap.Leap{Day: lastDay, Sign: -1})
	for _, tai := range []int{math.MinInt, -daySeconds, -1, 0, 1, 35, lastSecond + 37, 1 << 40, 1 << 62, math.MaxInt} {
		checkNote(t, x, tai, noNote)
	}
	checkNote(t, x, 36, said(36))
	checkNote(t, x, lastSecond+36, said(36))
	checkNote(t, made(t, 0), 0, said(0))
	checkNote(t, made(t, 0), daySeconds/2, said(0))
}

func TestByOffset(t *testing.T) {
	checkBy(t, said(36), 36, "1970-01-01T00:00:00")
	checkBy(t, said(36), 35, "")
	checkBy(t, said(36), 1483228835, "2016-12-31T23:59:59")
	checkBy(t, said(36), 1483228836, "2017-01-01T00:00:00")
	checkBy(t, said(-5), 0, "1970-01-01T00:00:05")
	checkBy(t, said(offsetMost), offsetMost+60, "1970-01-01T00:01:00")
	checkBy(t, said(offsetMost), 0, "")
	checkBy(t, said(-offsetMost-1), 0, "1970-01-01T09:06:08")
	checkBy(t, said(0), lastSecond, "9999-12-31T23:59:59")
	checkBy(t, said(0), lastSecond+1, "")
	checkBy(t, said(36), lastSecond+36, "9999-12-31T23:59:59")
	checkBy(t, said(-1), lastSecond, "")
}

func TestBy61(t *testing.T) {
	checkBy(t, said61(36), 1483228835, "2016-12-31T23:59:59")
	checkBy(t, said61(36), 1483228836, "2016-12-31T23:59:60")
	checkBy(t, said61(36), 1483228837, "2017-01-01T00:00:01")
	checkBy(t, said61(0), 0, "1970-01-01T00:00:00")
	checkBy(t, said61(0), daySeconds-1, "1970-01-01T23:59:59")
	checkBy(t, said61(0), daySeconds, "1970-01-01T23:59:60")
	checkBy(t, said61(0), 2*daySeconds, "1970-01-02T23:59:60")
	checkBy(t, said61(5), 4, "")
	checkBy(t, said61(5), 5, "1970-01-01T00:00:00")
	checkBy(t, said61(1), daySeconds, "1970-01-01T23:59:59")
	// The last day of 9999 has such a label, and there is no day behind it.
	checkBy(t, said61(0), lastSecond, "9999-12-31T23:59:59")
	checkBy(t, said61(0), lastSecond+1, "9999-12-31T23:59:60")
	checkBy(t, said61(0), lastSecond+2, "")
	checkBy(t, said61(0), lastSecond+1+daySeconds, "")
}

func TestBy59(t *testing.T) {
	checkBy(t, said59(36), 1483228834, "2016-12-31T23:59:58")
	checkBy(t, said59(36), 1483228835, "2017-01-01T00:00:00")
	checkBy(t, said59(36), 1483228836, "2017-01-01T00:00:00")
	checkBy(t, said59(0), 0, "1970-01-01T00:00:00")
	checkBy(t, said59(0), daySeconds-2, "1970-01-01T23:59:58")
	checkBy(t, said59(0), daySeconds-1, "1970-01-02T00:00:00")
	checkBy(t, said59(1), daySeconds, "1970-01-02T00:00:00")
	// One second ahead of the first day is a whole number of days less one, too.
	checkBy(t, said59(5), 4, "1970-01-01T00:00:00")
	checkBy(t, said59(5), 3, "")
	checkBy(t, said59(offsetMost), 0, "")
	checkBy(t, said59(0), lastSecond-1, "9999-12-31T23:59:58")
	checkBy(t, said59(0), lastSecond, "")
}

func TestByRefuses(t *testing.T) {
	for _, n := range []leap.Note{
		{}, {Offset: 36}, {Offset: 36, Leap61: true}, {Offset: 36, Leap59: true}, {Leap61: true, Leap59: true},
		{Leap61: true, Leap59: true, Valid: true}, {Offset: 36, Leap61: true, Leap59: true, Valid: true},
		said(offsetMost + 1), said61(offsetMost + 1), said59(offsetMost + 1), said(-offsetMost - 2), said61(-offsetMost - 2), said59(-offsetMost - 2),
		said(1 << 32), said(1<<32 + 36), said(-1 << 32), said(1 << 40), said(math.MaxInt), said(math.MinInt),
	} {
		for _, tai := range []int{0, 36, daySeconds - 1, daySeconds, 1483228836, lastSecond, taiMost} {
			checkBy(t, n, tai, "")
		}
	}
	for _, n := range []leap.Note{said(0), said(36), said(-36), said61(0), said61(36), said59(0), said59(-offsetMost - 1), said61(-offsetMost - 1)} {
		for _, tai := range []int{math.MinInt, -lastSecond, -daySeconds, -36, -1, taiMost, taiMost + 1, 1 << 41, 1 << 62, math.MaxInt} {
			checkBy(t, n, tai, "")
		}
	}
}
