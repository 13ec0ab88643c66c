package civil_test

import (
	"testing"

	"horologe/civil"
)

const (
	lastDay    = 2932896
	daySeconds = 86400
	lastSecond = 253402300799 // of 31 December 9999
)

var zero civil.Label

// leapEnd is the label that the document has as its example.
var leapEnd = civil.Label{Year: 2016, Month: 12, Day: 31, Hour: 23, Min: 59, Sec: 60}

func checkDay(t *testing.T, year, month, day, want int) {
	t.Helper()
	if n, is := civil.Day(year, month, day); n != want || !is {
		t.Errorf("P15.1: Day(%d, %d, %d): %d, %v, not %d", year, month, day, n, is, want)
	}
	if y, m, d, is := civil.Date(want); y != year || m != month || d != day || !is {
		t.Errorf("P15.1: Date(%d): %d, %d, %d, %v, not %d, %d, %d", want, y, m, d, is, year, month, day)
	}
}

func checkNoDay(t *testing.T, year, month, day int) {
	t.Helper()
	if n, is := civil.Day(year, month, day); n != 0 || is {
		t.Errorf("P15.1: Day(%d, %d, %d): %d, %v, though there is no such day", year, month, day, n, is)
	}
}

// checkWrong asks everything of a label that is not right.
func checkWrong(t *testing.T, l civil.Label) {
	t.Helper()
	if civil.Right(l) {
		t.Errorf("P15.2: Right(%v): true", l)
	}
	if n, is := civil.Sec(l); n != 0 || is {
		t.Errorf("P15.2: Sec(%v): %d, %v, though it is not right", l, n, is)
	}
	if s := civil.Text(l); s != "" {
		t.Errorf("P15.3: Text(%v): %q, though it is not right", l, s)
	}
}

// checkLabel asks everything of a right label.
func checkLabel(t *testing.T, l civil.Label, sec int, text string) {
	t.Helper()
	if !civil.Right(l) {
		t.Errorf("P15.2: Right(%v): false", l)
	}
	if n, is := civil.Sec(l); n != sec || !is {
		t.Errorf("P15.2: Sec(%v): %d, %v, not %d", l, n, is, sec)
	}
	if s := civil.Text(l); s != text {
		t.Errorf("P15.3: Text(%v): %q, not %q", l, s, text)
	}
	if r, is := civil.Read(text); r != l || !is {
		t.Errorf("P15.3: Read(%q): %v, %v, not %v", text, r, is, l)
	}
}

// checkSecond asks for the label of a second, too: it is one whose Sec is not 60.
func checkSecond(t *testing.T, l civil.Label, sec int, text string) {
	t.Helper()
	checkLabel(t, l, sec, text)
	if o, is := civil.Of(sec); o != l || !is {
		t.Errorf("P15.2: Of(%d): %v, %v, not %v", sec, o, is, l)
	}
}

func TestByHand(t *testing.T) {
	checkDay(t, 2000, 3, 1, 11017)
	checkDay(t, 2000, 2, 29, 11016)
	checkSecond(t, civil.Label{Year: 2016, Month: 12, Day: 31, Hour: 23, Min: 59, Sec: 59}, 1483228799, "2016-12-31T23:59:59")
	checkLabel(t, leapEnd, 1483228800, "2016-12-31T23:59:60")
	checkSecond(t, civil.Label{Year: 2017, Month: 1, Day: 1}, 1483228800, "2017-01-01T00:00:00")
}
