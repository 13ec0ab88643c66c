package leap_test

import (
	"math"
	"testing"

	"horologe/civil"
	"horologe/leap"
)

func TestPutIn(t *testing.T) {
	x := made(t, 36, leap.Leap{Day: newYear, Sign: 1})
	for _, c := range []struct {
		tai, offset int
		text        string
	}{
		{36, 36, "1970-01-01T00:00:00"}, {37, 36, "1970-01-01T00:00:01"},
		{1483228834, 36, "2016-12-31T23:59:58"}, {1483228835, 36, "2016-12-31T23:59:59"}, {1483228836, 36, "2016-12-31T23:59:60"},
		{1483228837, 37, "2017-01-01T00:00:00"}, {1483228838, 37, "2017-01-01T00:00:01"},
	} {
		checkOffset(t, x, c.tai, c.offset)
		checkLabel(t, x, c.tai, c.text)
	}
}

func TestLeftOut(t *testing.T) {
	x := made(t, 36, leap.Leap{Day: newYear, Sign: -1})
	for _, c := range []struct {
		tai, offset int
		text        string
	}{
		{1483228833, 36, "2016-12-31T23:59:57"}, {1483228834, 36, "2016-12-31T23:59:58"},
		{1483228835, 35, "2017-01-01T00:00:00"}, {1483228836, 35, "2017-01-01T00:00:01"},
	} {
		checkOffset(t, x, c.tai, c.offset)
		checkLabel(t, x, c.tai, c.text)
	}
	checkNoTai(t, x, read(t, "2016-12-31T23:59:59"))
	checkNoTai(t, x, read(t, "2016-12-31T23:59:60"))
}

// Days may be as near as two to each other: the offset goes back behind the second leap.
func TestOneAfterTheOther(t *testing.T) {
	x := made(t, 0, leap.Leap{Day: 1, Sign: -1}, leap.Leap{Day: 3, Sign: 1}, leap.Leap{Day: 5, Sign: 1})
	for _, c := range []struct {
		tai, offset int
		text        string
	}{
		{0, 0, "1970-01-01T00:00:00"},
		{2*daySeconds - 2, 0, "1970-01-02T23:59:58"}, {2*daySeconds - 1, -1, "1970-01-03T00:00:00"},
		{4*daySeconds - 2, -1, "1970-01-04T23:59:59"}, {4*daySeconds - 1, -1, "1970-01-04T23:59:60"}, {4 * daySeconds, 0, "1970-01-05T00:00:00"},
		{6*daySeconds - 1, 0, "1970-01-06T23:59:59"}, {6 * daySeconds, 0, "1970-01-06T23:59:60"}, {6*daySeconds + 1, 1, "1970-01-07T00:00:00"},
	} {
		checkOffset(t, x, c.tai, c.offset)
		checkLabel(t, x, c.tai, c.text)
	}
}

// Ahead of the first second of 1970 there is no label, and behind the last one of 9999.
func TestEndsOfLabels(t *testing.T) {
	for _, first := range []int{0, 1, 36, firstMost} {
		x := made(t, first)
		for _, tai := range []int{math.MinInt, math.MinInt + first, -lastSecond, -first, -1} {
			if tai < 0 {
				checkLabel(t, x, tai, "")
			}
			checkOffset(t, x, tai, first)
		}
		if first > 0 {
			checkLabel(t, x, 0, "")
			checkLabel(t, x, first-1, "")
		}
		checkLabel(t, x, first, "1970-01-01T00:00:00")
		checkLabel(t, x, lastSecond+first, "9999-12-31T23:59:59")
		for _, tai := range []int{lastSecond + first + 1, lastSecond + first + 2, 1 << 40, 1 << 62, 1<<62 + 1, math.MaxInt - 1, math.MaxInt} {
			checkLabel(t, x, tai, "")
			checkOffset(t, x, tai, first)
		}
	}
}

// Where the offset is below 0 there are labels ahead of none, and great times do not go round.
func TestOffsetBelowZero(t *testing.T) {
	l := many(64)
	for i := range l {
		l[i].Sign = -1
	}
	x := made(t, 0, l...)
	checkLabel(t, x, 0, "1970-01-01T00:00:00")
	checkLabel(t, x, -1, "")
	checkLabel(t, x, lastSecond-64, "9999-12-31T23:59:59")
	checkLabel(t, x, lastSecond-63, "")
	for _, tai := range []int{-64, -63, math.MinInt} {
		checkLabel(t, x, tai, "")
		checkOffset(t, x, tai, 0)
	}
	for _, tai := range []int{lastSecond, math.MaxInt - 64, math.MaxInt - 63, math.MaxInt} {
		checkLabel(t, x, tai, "")
		checkOffset(t, x, tai, -64)
	}
}

// The last days that may end with a leap, and the first.
func TestLeapsAtTheEnds(t *testing.T) {
	last := lastSecond + 1 - daySeconds // of the days up to the last one but one
	x := made(t, 5, leap.Leap{Day: 1, Sign: 1}, leap.Leap{Day: lastDay, Sign: 1})
	checkLabel(t, x, 2*daySeconds+5, "1970-01-02T23:59:60")
	checkLabel(t, x, last+5, "9999-12-30T23:59:59")
	checkLabel(t, x, last+6, "9999-12-30T23:59:60")
	checkLabel(t, x, last+7, "9999-12-31T00:00:00")
	checkLabel(t, x, lastSecond+7, "9999-12-31T23:59:59")
	checkLabel(t, x, lastSecond+8, "")
	checkNoTai(t, x, read(t, "9999-12-31T23:59:60"))
	x = made(t, 5, leap.Leap{Day: 1, Sign: -1}, leap.Leap{Day: lastDay, Sign: -1})
	checkLabel(t, x, 2*daySeconds+4, "1970-01-03T00:00:00")
	checkLabel(t, x, last+2, "9999-12-30T23:59:58")
	checkLabel(t, x, last+3, "9999-12-31T00:00:00")
	checkLabel(t, x, lastSecond+3, "9999-12-31T23:59:59")
	checkLabel(t, x, lastSecond+4, "")
}

func TestNoTai(t *testing.T) {
	x := made(t, 36, leap.Leap{Day: newYear, Sign: 1}, leap.Leap{Day: newYear + 365, Sign: -1})
	for _, text := range []string{
		"1970-01-01T23:59:60", "2015-12-31T23:59:60", "2016-12-30T23:59:60", "2017-01-01T23:59:60",
		"2017-12-31T23:59:59", "2017-12-31T23:59:60", "2018-01-01T23:59:60", "9999-12-31T23:59:60",
	} {
		checkNoTai(t, x, read(t, text))
	}
	for _, l := range []civil.Label{
		{}, {Year: 2017, Month: 1}, {Year: 2017, Month: 2, Day: 29}, {Year: 1969, Month: 12, Day: 31, Hour: 23, Min: 59, Sec: 59},
		{Year: 10000, Month: 1, Day: 1}, {Year: 2016, Month: 13, Day: 1}, {Year: 2016, Month: 12, Day: 32},
		{Year: 2016, Month: 12, Day: 31, Hour: 24}, {Year: 2016, Month: 12, Day: 31, Hour: 23, Min: 60},
		{Year: 2016, Month: 12, Day: 31, Hour: 23, Min: 59, Sec: 61}, {Year: 2016, Month: 12, Day: 31, Hour: 23, Min: 58, Sec: 60},
		{Year: 2016, Month: 12, Day: 31, Hour: 22, Min: 59, Sec: 60}, {Year: 2016, Month: 12, Day: 31, Hour: -1},
		{Year: math.MaxInt, Month: 12, Day: 31}, {Year: 2016, Month: 12, Day: math.MinInt},
	} {
		checkNoTai(t, x, l)
	}
}
