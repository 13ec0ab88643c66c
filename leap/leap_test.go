package leap_test

import (
	"testing"

	"horologe/api"
	"horologe/civil"
	"horologe/leap"
)

const (
	firstMost  = 30000
	lastDay    = 2932895 // that may end with a leap
	daySeconds = 86400
	lastSecond = 253402300799 // of 31 December 9999
	offsetMost = 32767
	taiMost    = 1 << 40 // that By takes
	newYear    = 17166   // the day of 31 December 2016
)

var (
	noLabel civil.Label
	noNote  leap.Note
)

func made(t *testing.T, first int, l ...leap.Leap) *leap.Table {
	t.Helper()
	x, e := leap.New(first, l)
	if x == nil || e != api.OK {
		t.Fatalf("P16.1: New(%d, %v): %v, %d", first, l, x, e)
	}
	return x
}

// read is a label by its text: none by one that is empty.
func read(t *testing.T, text string) civil.Label {
	t.Helper()
	l, is := civil.Read(text)
	if is != (text != "") {
		t.Fatalf("%q is no label's text", text)
	}
	return l
}

func dayOf(t *testing.T, text string) int {
	t.Helper()
	l := read(t, text+"T00:00:00")
	n, _ := civil.Day(l.Year, l.Month, l.Day)
	return n
}

func checkOffset(t *testing.T, x *leap.Table, tai, want int) {
	t.Helper()
	if n := x.Offset(tai); n != want {
		t.Errorf("P16.2: Offset(%d): %d, not %d", tai, n, want)
	}
}

// checkLabel asks for the label of a time, and for the time of that label; an empty text is that of none.
func checkLabel(t *testing.T, x *leap.Table, tai int, text string) {
	t.Helper()
	want := read(t, text)
	if l, is := x.Label(tai); l != want || is != (text != "") {
		t.Errorf("P16.2: Label(%d): %v, %v, not %q", tai, l, is, text)
	}
	if text == "" {
		return
	}
	if n, is := x.Tai(want); n != tai || !is {
		t.Errorf("P16.2: Tai(%s): %d, %v, not %d", text, n, is, tai)
	}
}

func checkNoTai(t *testing.T, x *leap.Table, l civil.Label) {
	t.Helper()
	if n, is := x.Tai(l); n != 0 || is {
		t.Errorf("P16.2: Tai(%v): %d, %v, though no time has that label", l, n, is)
	}
}

func checkNote(t *testing.T, x *leap.Table, tai int, want leap.Note) {
	t.Helper()
	if n := x.Note(tai); n != want {
		t.Errorf("P16.3: Note(%d): %+v, not %+v", tai, n, want)
	}
}

// checkBy asks for the label of a time by a note; an empty text is that of none.
func checkBy(t *testing.T, n leap.Note, tai int, text string) {
	t.Helper()
	want := read(t, text)
	if l, is := leap.By(n, tai); l != want || is != (text != "") {
		t.Errorf("P16.3: By(%+v, %d): %v, %v, not %q", n, tai, l, is, text)
	}
}

func TestByHand(t *testing.T) {
	x := made(t, 36, leap.Leap{Day: newYear, Sign: 1})
	checkLabel(t, x, 1483228835, "2016-12-31T23:59:59")
	checkLabel(t, x, 1483228836, "2016-12-31T23:59:60")
	checkLabel(t, x, 1483228837, "2017-01-01T00:00:00")
	checkOffset(t, x, 1483228836, 36)
	checkOffset(t, x, 1483228837, 37)
}

// The seconds that were put in from 1972 on, and by how much TAI was ahead of UTC behind each.
func TestTrueLeaps(t *testing.T) {
	days := []string{
		"1972-06-30", "1972-12-31", "1973-12-31", "1974-12-31", "1975-12-31", "1976-12-31", "1977-12-31", "1978-12-31", "1979-12-31",
		"1981-06-30", "1982-06-30", "1983-06-30", "1985-06-30", "1987-12-31", "1989-12-31", "1990-12-31", "1992-06-30", "1993-06-30",
		"1994-06-30", "1995-12-31", "1997-06-30", "1998-12-31", "2005-12-31", "2008-12-31", "2012-06-30", "2015-06-30", "2016-12-31",
	}
	var l []leap.Leap
	for _, day := range days {
		l = append(l, leap.Leap{Day: dayOf(t, day), Sign: 1})
	}
	x := made(t, 10, l...)
	for i, day := range days {
		tai := (dayOf(t, day)+1)*daySeconds + 10 + i
		checkOffset(t, x, tai-1, 10+i)
		checkOffset(t, x, tai, 10+i)
		checkOffset(t, x, tai+1, 11+i)
		checkLabel(t, x, tai-1, day+"T23:59:59")
		checkLabel(t, x, tai, day+"T23:59:60")
	}
	// The beginning of GPS time, of the year 2000, and of 2017.
	checkLabel(t, x, 315964819, "1980-01-06T00:00:00")
	checkLabel(t, x, 946684832, "2000-01-01T00:00:00")
	checkLabel(t, x, 1483228837, "2017-01-01T00:00:00")
	checkOffset(t, x, 1<<40, 37)
}
