package civil_test

import (
	"strings"
	"testing"

	"horologe/civil"
)

const form = "2016-12-31T23:59:60"

// readByRule goes by the words: digits where form has digits, all else as it stands there, and the label is right.
func readByRule(s string) (civil.Label, bool) {
	if len(s) != len(form) {
		return zero, false
	}
	var l civil.Label
	field := 0
	for i := range len(s) {
		isDigit := '0' <= s[i] && s[i] <= '9'
		switch {
		case strings.IndexByte("-T:", form[i]) < 0:
			if !isDigit {
				return zero, false
			}
			n := fields(&l)[field]
			*n = *n*10 + int(s[i]-'0')
		case s[i] != form[i]:
			return zero, false
		default:
			field++
		}
	}
	if !rightByRule(l) {
		return zero, false
	}
	return l, true
}

// checkRead tells whether there was a label.
func checkRead(t *testing.T, s string) bool {
	t.Helper()
	want, is := readByRule(s)
	if l, ok := civil.Read(s); l != want || ok != is {
		t.Fatalf("P15.3: Read(%q): %v, %v, not %v, %v", s, l, ok, want, is)
	}
	if is && civil.Text(want) != s {
		t.Fatalf("P15.3: Text(%v): %q, not %q", want, civil.Text(want), s)
	}
	return is
}

func TestTexts(t *testing.T) {
	for _, s := range []string{form, "1970-01-01T00:00:00", "9999-12-31T23:59:60", "2000-02-29T09:08:07", "2010-10-20T10:20:30"} {
		if !checkRead(t, s) {
			t.Errorf("P15.3: no label has the text %q", s)
		}
	}
}

// TestNoTexts: what is too short, or too long, or written otherwise, is no text of a label.
func TestNoTexts(t *testing.T) {
	no := []string{
		form + "Z", form + " ", form + "\x00", " " + form, form + form, form + "0", "0" + form, form[1:] + "0",
		"2016-12-31 23:59:60", "2016-12-31t23:59:60", "2016/12/31T23:59:60", "2016-12-31T23.59.60", "2016-12-31T23:59-60", "2016:12:31T23:59:60",
		"+016-12-31T23:59:60", "-016-12-31T23:59:60", " 016-12-31T23:59:60", "2016-+1-31T23:59:60", "2016--1-31T23:59:60", "2016- 1-31T23:59:60", "2016-1 -31T23:59:60",
		"2016-1-31T23:59:600", "2016-12-31T23:59:6", "20161-2-31T23:59:60", "02016-1-31T23:59:60", "2016-12-31T23:59:+6", "2016-12-31T23:59:-0", "2_16-12-31T23:59:60",
		"2016-12-31T23:59:0x", "0x16-12-31T23:59:60", "201\u0666-12-31T23:59:6", "2016-12-31T23:59:\u0666", "2016-12-31T2\u066659:60", strings.Repeat("0", 19), strings.Repeat("9", 19), strings.Repeat("\x00", 19), strings.Repeat("\xff", 19), strings.Repeat("-", 19),
		"1969-12-31T23:59:59", "1969-12-31T23:59:60", "0000-01-01T00:00:00", "0001-01-01T00:00:00", "10000-01-01T00:00:00", "10000-1-01T00:00:00",
		"2016-00-31T23:59:59", "2016-13-31T23:59:59", "2016-12-00T23:59:59", "2016-12-32T23:59:59", "2016-12-31T24:00:00", "2016-12-31T23:60:00", "2016-12-31T23:59:61", "2016-12-31T22:59:60", "2016-12-31T23:58:60", "2015-02-29T00:00:00", "2100-02-29T00:00:00", "2016-02-30T00:00:00", "2016-11-31T00:00:00",
		// What would be right, if ten were a digit: ':' stands behind '9'.
		"2016-0:-31T23:59:59", "2016-12-1:T23:59:59", "200:-12-31T23:59:59", "2016-12-31T1:59:59:", "2016-12-31T1::59:59", "2016-12-31T23:4::59", "2016-12-31T23:59:5:", "2016-12-31T23:59:4:", "2016-1/-31T23:59:59", "2016-12-3/T23:59:59",
	}
	for n := range len(form) {
		no = append(no, form[:n], form[n:][:len(form)-n-1], form[:n]+form[n+1:], form[:n]+"0"+form[n:], form[:n]+"-"+form[n:])
	}
	for _, s := range no {
		if l, is := civil.Read(s); l != zero || is {
			t.Errorf("P15.3: Read(%q): %v, %v", s, l, is)
		}
		if checkRead(t, s) {
			t.Errorf("P15.3: %q is taken as a text", s)
		}
	}
}

// TestEveryByte has texts of which one byte is any, and two are any of many.
func TestEveryByte(t *testing.T) {
	labels, others := 0, 0
	count := func(s string) {
		if checkRead(t, s) {
			labels++
		} else {
			others++
		}
	}
	const many = "0123456789-:T /+.;a\x00\xff"
	for _, s := range []string{form, "2000-02-29T00:00:00", "1970-01-01T05:06:07", "9999-09-30T19:18:17"} {
		b := []byte(s)
		for i := range b {
			for n := range 256 {
				b[i] = byte(n)
				count(string(b))
			}
			for j := range i {
				for k := range len(many) * len(many) {
					b[i], b[j] = many[k%len(many)], many[k/len(many)]
					count(string(b))
				}
				b[j] = s[j]
			}
			b[i] = s[i]
		}
	}
	if labels < 3000 || others < 3000 {
		t.Errorf("too few were labels, or not: %d, %d", labels, others)
	}
}
