package civil_test

import (
	"math"
	"testing"

	"horologe/civil"
)

func TestLeap(t *testing.T) {
	yes := []int{1972, 1996, 2000, 2004, 2024, 2096, 2104, 2400, 9996, 9600, 1600, 4, 400, 0, -4, -96, -104, -400, -2000, 1 << 32, 1<<62 + 4, math.MinInt}
	no := []int{1970, 1971, 1973, 1900, 1999, 2001, 2002, 2003, 2100, 2200, 2300, 2500, 9900, 9999, 1, 2, 100, 200, -1, -2, -3, -100, -200, -300, -1900, 1<<32 + 1, math.MaxInt, math.MinInt + 1}
	for _, y := range yes {
		if !civil.Leap(y) {
			t.Errorf("P15.1: Leap(%d): false", y)
		}
	}
	for _, y := range no {
		if civil.Leap(y) {
			t.Errorf("P15.1: Leap(%d): true", y)
		}
	}
}

func TestLong(t *testing.T) {
	want := [13]int{0, 31, 28, 31, 30, 31, 30, 31, 31, 30, 31, 30, 31}
	for _, y := range []int{2001, 1970, 9999, 1969, 10000, 1900, 2100, 0, 1, -1, -4, -100, 1 << 32, math.MaxInt, math.MinInt} {
		for m := 1; m <= 12; m++ {
			long := want[m]
			if m == 2 && civil.Leap(y) {
				long = 29
			}
			if n := civil.Long(y, m); n != long {
				t.Errorf("P15.1: Long(%d, %d): %d, not %d", y, m, n, long)
			}
		}
		for _, m := range []int{0, -1, -2, -11, 13, 14, 24, 256 + 2, 1<<32 + 1, 1<<32 + 2, math.MaxInt, math.MinInt, math.MinInt + 2} {
			if n := civil.Long(y, m); n != 0 {
				t.Errorf("P15.1: Long(%d, %d): %d, though there is no such month", y, m, n)
			}
		}
	}
	for y, long := range map[int]int{1972: 29, 2000: 29, 2100: 28, 2001: 28, 2400: 29, -4: 29, 0: 29, -100: 28, 12000: 29, 10100: 28} {
		if n := civil.Long(y, 2); n != long {
			t.Errorf("P15.1: Long(%d, 2): %d, not %d", y, n, long)
		}
	}
}

func TestDaysAtEdges(t *testing.T) {
	for _, x := range [][4]int{
		{1970, 1, 1, 0}, {1970, 1, 2, 1}, {1970, 1, 31, 30}, {1970, 2, 1, 31}, {1970, 2, 28, 58}, {1970, 3, 1, 59}, {1970, 12, 31, 364},
		{1971, 1, 1, 365}, {1972, 1, 1, 730}, {1972, 2, 28, 788}, {1972, 2, 29, 789}, {1972, 3, 1, 790}, {1972, 12, 31, 1095}, {1973, 1, 1, 1096},
		{1999, 12, 31, 10956}, {2000, 1, 1, 10957}, {2000, 2, 28, 11015}, {2000, 2, 29, 11016}, {2000, 3, 1, 11017}, {2000, 12, 31, 11322}, {2001, 1, 1, 11323},
		{2016, 12, 31, 17166}, {2017, 1, 1, 17167}, {2100, 2, 28, 47540}, {2100, 3, 1, 47541},
		{2369, 12, 31, 146096}, {2370, 1, 1, 146097}, {2370, 1, 2, 146098}, {9969, 12, 31, 2921939}, {9970, 1, 1, 2921940},
		{9999, 1, 1, 2932532}, {9999, 12, 30, lastDay - 1}, {9999, 12, 31, lastDay},
	} {
		checkDay(t, x[0], x[1], x[2], x[3])
	}
}

func TestNoSuchDay(t *testing.T) {
	for _, y := range []int{1969, 0, -1, -1970, -2000, 10000, 10001, 11970, 1<<32 + 2000, math.MaxInt, math.MinInt} {
		checkNoDay(t, y, 1, 1)
		checkNoDay(t, y, 12, 31)
		checkNoDay(t, y, 2, 29)
	}
	for _, m := range []int{0, -1, 13, 14, 24, 256 + 1, 1<<32 + 1, math.MaxInt, math.MinInt, math.MinInt + 1} {
		for _, y := range []int{1970, 1972, 2000, 9999} {
			checkNoDay(t, y, m, 1)
			checkNoDay(t, y, m, 0)
		}
	}
	for m := 1; m <= 12; m++ {
		for _, y := range []int{1970, 2000, 2001, 2100, 2370, 9999} {
			for _, d := range []int{0, -1, civil.Long(y, m) + 1, 32, 256 + 1, 1<<32 + 1, math.MaxInt, math.MinInt, math.MinInt + 1} {
				checkNoDay(t, y, m, d)
			}
		}
	}
	for _, x := range [][3]int{{2001, 2, 29}, {2100, 2, 29}, {2000, 2, 30}, {1999, 4, 31}, {1999, 6, 31}, {1999, 9, 31}, {1999, 11, 31}, {0, 0, 0}} {
		checkNoDay(t, x[0], x[1], x[2])
	}
}

func TestNoSuchDate(t *testing.T) {
	for _, n := range []int{-1, -2, -365, -146097, lastDay + 1, lastDay + 2, lastDay + 146097, 1 << 32, 1<<32 + 5, -1 << 32, 1 << 62, math.MaxInt, math.MinInt, math.MinInt + 1} {
		if y, m, d, is := civil.Date(n); y != 0 || m != 0 || d != 0 || is {
			t.Errorf("P15.1: Date(%d): %d, %d, %d, %v, though there is no such day", n, y, m, d, is)
		}
	}
}

// TestAllDays goes from day to day by what Long tells.
func TestAllDays(t *testing.T) {
	day := 0
	for y := 1970; y <= 9999; y++ {
		for m := 1; m <= 12; m++ {
			for d := 1; d <= civil.Long(y, m); d++ {
				if n, is := civil.Day(y, m, d); n != day || !is {
					t.Fatalf("P15.4: Day(%d, %d, %d): %d, %v, not %d", y, m, d, n, is, day)
				}
				if a, b, c, is := civil.Date(day); a != y || b != m || c != d || !is {
					t.Fatalf("P15.4: Date(%d): %d, %d, %d, %v, not %d, %d, %d", day, a, b, c, is, y, m, d)
				}
				day++
			}
		}
	}
	if day != lastDay+1 {
		t.Errorf("P15.1: there are %d days, not %d", day, lastDay+1)
	}
}
