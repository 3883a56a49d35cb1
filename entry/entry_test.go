package entry_test

import (
	"math"
	"slices"
	"strings"
	"testing"

	"masonry/api"
	"masonry/bits"
	"masonry/entries"
	"masonry/entry"
)

// What tables (P1702) and trees (P1802) have alike.

func TestP1702May(t *testing.T) {
	for _, x := range entries.Wrong() {
		if entry.May(x) {
			t.Errorf("of the kind %d, %d bytes, the place %d: may be", x.Print.Kind, len(x.Print.Sum), x.At)
		}
	}
	for _, at := range []int{1, 2, 255, 256, 1998, 1999} {
		for kind := 1; kind <= 2; kind++ {
			if !entry.May(entries.Of(kind, 7, 7, at)) {
				t.Errorf("of the kind %d, the place %d: may not be", kind, at)
			}
		}
	}
}

func TestP1702Compare(t *testing.T) {
	l := entries.Sorted(slices.Concat(entries.Mixed(40), entries.Alike(1, 7, 9), entries.OneHash(2, 7, 9), entries.Wrong())...)
	l = append(slices.Compact(l), entries.Of(2, 65535, 65535, math.MaxInt)) // behind all: of the greatest print
	l[len(l)-1].Print.Kind = math.MaxInt
	for n, a := range l {
		for m, b := range l {
			if got := entry.Compare(a, b); (got < 0) != (n < m) || (got > 0) != (n > m) {
				t.Errorf("%v, %v: %d", a, b, got)
			}
		}
	}
}

func TestP1702Rise(t *testing.T) {
	l := entries.Sorted(entries.Crowd(30)...)
	for from := range l {
		for to := from; to <= len(l); to++ {
			if !entry.Rise(l[from:to]) {
				t.Errorf("from %d to %d", from, to)
			}
		}
		if from > 0 {
			turned := slices.Clone(l)
			turned[from-1], turned[from] = l[from], l[from-1]
			twice := slices.Insert(slices.Clone(l), from, l[from])
			if entry.Rise(turned) || entry.Rise(twice) || entry.Rise(twice[from:]) {
				t.Errorf("out of order, or twice, at %d", from)
			}
		}
	}
}

func TestP1702LayAndRead(t *testing.T) {
	o := new(bits.Out)
	l := []api.Entry{entries.Of(1, 0x102, 0x304, 0x506), entries.Of(2, 0xfffe, 0, 1999)}
	entry.Lay(o)
	entry.Lay(o, l...)
	b, e := o.End()
	p := strings.Repeat("p", 16)
	should := "\x01\x02\x01\x04\x03" + p + strings.Repeat("\x00", 12) + "\x06\x05" + "\x02\xfe\xff\x00\x00" + p + strings.Repeat("p", 12) + "\xcf\x07"
	if b != should || e != api.OK || len(b) != 2*entry.Size {
		t.Errorf("Lay: %x, %d, not %x", b, e, should)
	}
	for _, i := range []*bits.In{bits.On(b), bits.On(b + "x")} {
		if x, y := entry.Read(i), entry.Read(i); x != l[0] || y != l[1] {
			t.Errorf("Read: %v, %v", x, y)
		}
		if x := entry.Read(i); entry.May(x) {
			t.Errorf("Read where there is none: %v", x)
		}
	}
	for n := range entry.Size {
		if x := entry.Read(bits.On(b[:n])); entry.May(x) {
			t.Errorf("Read of %d bytes: %v", n, x)
		}
	}
	if x := entry.Read(bits.On("\x03" + b[1:])); entry.May(x) {
		t.Errorf("Read of another kind: %v", x)
	}
}
