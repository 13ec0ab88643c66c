package civil_test

import (
	"testing"

	"horologe/civil"
)

// TestSecondsComeBack: those of a label are the ones that it was made of, and its text tells the label.
func TestSecondsComeBack(t *testing.T) {
	check := func(n int) {
		l, is := civil.Of(n)
		if !is || !civil.Right(l) || l.Sec == 60 {
			t.Fatalf("P15.2: Of(%d): %v, %v", n, l, is)
		}
		if back, is := civil.Sec(l); back != n || !is {
			t.Fatalf("P15.4: Sec(Of(%d)): %d, %v", n, back, is)
		}
		if back, is := civil.Read(civil.Text(l)); back != l || !is {
			t.Fatalf("P15.4: Read(%q): %v, %v, not %v", civil.Text(l), back, is, l)
		}
	}
	take := numbers(88675123)
	for range 100000 {
		check(take(lastSecond + 1))
	}
	// All seconds of some days.
	for _, day := range []int{0, 789, 11016, 17166, lastDay} {
		for n := range daySeconds {
			check(day*daySeconds + n)
		}
	}
}

// TestSecondsRise: each label is the very next one, and Less tells so.
func TestSecondsRise(t *testing.T) {
	for _, from := range []int{0, 789*daySeconds - 3, 11016*daySeconds + 3590, 17167*daySeconds - 4000, 146097*daySeconds - 2} {
		last, _ := civil.Of(from)
		for n := from + 1; n < from+8000; n++ {
			l, _ := civil.Of(n)
			if !civil.Less(last, l) || civil.Less(l, last) {
				t.Fatalf("P15.2: Of(%d) is %v, and Of(%d) is %v", n-1, last, n, l)
			}
			last = l
		}
	}
}

// TestTextsStandInTheSameOrder, those with a second 60 too.
func TestTextsStandInTheSameOrder(t *testing.T) {
	take := numbers(123456789)
	like, ahead, behind := 0, 0, 0
	for range 100000 {
		a, b := rightLabel(take), rightLabel(take)
		// Many are alike in what stands ahead.
		for i, n := range fields(&b) {
			if take(4) == 0 {
				break
			}
			*n = *fields(&a)[i]
		}
		if !rightByRule(b) {
			continue
		}
		s, r := civil.Text(a), civil.Text(b)
		if civil.Less(a, b) != (s < r) || civil.Less(b, a) != (r < s) || (a == b) != (s == r) {
			t.Fatalf("P15.4: of %v and %v the texts %q and %q stand otherwise", a, b, s, r)
		}
		switch {
		case s == r:
			like++
		case s < r:
			ahead++
		default:
			behind++
		}
	}
	if like < 5000 || ahead < 5000 || behind < 5000 {
		t.Errorf("too few were like, ahead, or behind: %d, %d, %d", like, ahead, behind)
	}
}

func rightLabel(take func(int) int) civil.Label {
	for {
		if l := anyLabel(take); rightByRule(l) {
			return l
		}
	}
}

// TestLessIsAnOrder: of three labels, right or not.
func TestLessIsAnOrder(t *testing.T) {
	take := numbers(987654321)
	near := func() civil.Label {
		return civil.Label{Year: take(2), Month: take(2), Day: take(2), Hour: take(2), Min: take(2), Sec: take(2) - 1}
	}
	for range 100000 {
		a, b, c := near(), near(), near()
		if civil.Less(a, b) && civil.Less(b, a) || a != b && !civil.Less(a, b) && !civil.Less(b, a) || a == b && civil.Less(a, b) {
			t.Fatalf("P15.2: Less of %v and %v: %v, %v", a, b, civil.Less(a, b), civil.Less(b, a))
		}
		if civil.Less(a, b) && civil.Less(b, c) && !civil.Less(a, c) {
			t.Fatalf("P15.2: Less of %v, %v and %v goes round", a, b, c)
		}
	}
}

// TestTheSameCallsTellTheSame, whatever was asked in between.
func TestTheSameCallsTellTheSame(t *testing.T) {
	type answers struct {
		leap, isDay, isDate, isOf, isSec, right, isRead, less bool
		long, day, sec                                        int
		date                                                  [3]int
		of, read                                              civil.Label
		text                                                  string
	}
	ask := func(take func(int) int) (x answers) {
		l, n := anyLabel(take), about(take)
		x.leap, x.long, x.right, x.text = civil.Leap(l.Year), civil.Long(l.Year, l.Month), civil.Right(l), civil.Text(l)
		x.day, x.isDay = civil.Day(l.Year, l.Month, l.Day)
		x.date[0], x.date[1], x.date[2], x.isDate = civil.Date(n)
		x.of, x.isOf = civil.Of(n)
		x.sec, x.isSec = civil.Sec(l)
		x.read, x.isRead = civil.Read(x.text)
		x.less = civil.Less(l, x.of)
		return x
	}
	a, b := numbers(42), numbers(42)
	for range 20000 {
		if x, y := ask(a), ask(b); x != y {
			t.Fatalf("R7: %v, and then %v", x, y)
		}
	}
}
