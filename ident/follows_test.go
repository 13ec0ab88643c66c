package ident_test

import (
	"bytes"
	"slices"
	"strings"
	"testing"

	"horologe/api"
	"horologe/ident"
)

func TestClocksAreInOrder(t *testing.T) {
	rising := edgeClocks()
	for i, a := range rising {
		for j, b := range rising {
			if n := ident.Compare(a, b); n != sign(i, j) {
				t.Errorf("P4.3: Compare(%x, %x): %d", a, b, n)
			}
		}
	}
	l := append(rising, mixedClocks(60)...)
	for _, a := range l {
		for _, b := range l {
			n := ident.Compare(a, b)
			if ident.Compare(b, a) != -n || (n == 0) != (a == b) {
				t.Errorf("P4.3: Compare of %x and %x: %d, and turned %d", a, b, n, ident.Compare(b, a))
			}
			for _, c := range l {
				if n < 0 && ident.Compare(b, c) < 0 && ident.Compare(a, c) != -1 {
					t.Errorf("P4.3: Compare(%x, %x) is not -1, though %x is between", a, c, b)
				}
			}
		}
	}
}

func TestPortsAreInOrder(t *testing.T) {
	l := edgePorts()
	for _, n := range wrongNumbers() {
		l = append(l, api.Port{Number: n}, api.Port{Clock: api.Clock{0xff}, Number: n})
	}
	for _, a := range l {
		for _, b := range l {
			n := ident.Ports(a, b)
			if ident.Ports(b, a) != -n || (n == 0) != (a == b) {
				t.Errorf("P4.3: Ports of %v and %v: %d, and turned %d", a, b, n, ident.Ports(b, a))
			}
		}
	}
	slices.SortFunc(l, ident.Ports)
	for i := range len(l) - 1 {
		for _, b := range l[i+1:] {
			if ident.Ports(l[i], b) != -1 {
				t.Fatalf("P4.3: Ports(%v, %v) is not -1, though others are between", l[i], b)
			}
		}
	}
}

func TestTextsStandInTheSameOrder(t *testing.T) {
	l := append(edgeClocks(), mixedClocks(300)...)
	for _, a := range l {
		for _, b := range l {
			if n := strings.Compare(ident.Text(a), ident.Text(b)); n != ident.Compare(a, b) {
				t.Errorf("P4.3: the texts of %x and %x: %d", a, b, n)
			}
		}
	}
}

func TestBytesStandInTheSameOrder(t *testing.T) {
	l := edgePorts()
	rows := make([][]byte, len(l))
	for i, p := range l {
		rows[i], _ = ident.Put(p)
	}
	for i, a := range l {
		for j, b := range l {
			if n := bytes.Compare(rows[i], rows[j]); n != ident.Ports(a, b) {
				t.Errorf("P4.3: the bytes of %v and %v: %d", a, b, n)
			}
		}
	}
}

func TestThereAndBack(t *testing.T) {
	for _, c := range append(edgeClocks(), mixedClocks(2000)...) {
		if o, is := ident.Read(ident.Text(c)); !is || o != c {
			t.Errorf("P4.3: Read(Text(%x)): %x %v", c, o, is)
		}
		for _, n := range numbers() {
			p := api.Port{Clock: c, Number: n}
			b, is := ident.Put(p)
			if o, has := ident.Get(b); !is || !has || o != p {
				t.Errorf("P4.3: Get(Put(%v)): %v %v", p, o, has)
			}
		}
	}
}

func TestBytesAreTheCallersOwn(t *testing.T) {
	p := api.Port{Clock: api.Clock{1, 2, 3, 4, 5, 6, 7, 8}, Number: 258}
	want := []byte{1, 2, 3, 4, 5, 6, 7, 8, 1, 2}
	b, _ := ident.Put(p)
	for i := range b {
		b[i] = 0xee
	}
	if o, _ := ident.Put(p); !bytes.Equal(o, want) {
		t.Errorf("R6: Put(%v) once its bytes were written into: %x", p, o)
	}
	b = slices.Clone(want)
	got, _ := ident.Get(b)
	if !bytes.Equal(b, want) {
		t.Errorf("R5: Get changed its bytes: %x", b)
	}
	for i := range b {
		b[i] = 0xee
	}
	if got != p {
		t.Errorf("R6: what Get told once its bytes were written into: %v", got)
	}
}
