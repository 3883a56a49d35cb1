package head

import (
	"hash/crc32"
	"math"
	"slices"
	"strings"
	"testing"

	"masonry/api"
	"masonry/sample"
)

// ends tells a list of n sectors that end with the last one there is.
func ends(n int) []int {
	l := make([]int, n)
	for k := range l {
		l[k] = api.Sectors - n + k
	}
	return l
}

// evens tells n sectors from 0 on, each second one.
func evens(n int) []int {
	l := make([]int, n)
	for k := range l {
		l[k] = 2 * k
	}
	return l
}

// full tells a head that is Full.
func full(seq int, targets ...int) Head { return Head{Seq: seq, Full: true, Targets: targets} }

// heads tells heads that may be.
func heads() []Head {
	var l []Head
	for _, seq := range []int{0, 1, 2, 255, 256, 258, 65535, 65536, 1<<32 - 1, 1 << 32, 1<<40 - 1, 1 << 40} {
		l = append(l, Head{Seq: seq}, full(seq, 0), full(seq, 1999), full(seq, 3, 300), full(seq, 0, 1, 2), full(seq, 0, 1999))
		l = append(l, full(seq, evens(109)...), full(seq, evens(110)...), full(seq, ends(109)...), full(seq, ends(110)...))
	}
	for n := 1; n <= api.MaxTx; n++ {
		l = append(l, full(n, evens(n)...))
	}
	for at := range api.Sectors {
		l = append(l, full(7, at))
	}
	return append(l, Head{Seq: 4, Targets: []int{}})
}

// misfits tells heads that can't be.
func misfits() []Head {
	var l []Head
	for _, seq := range []int{-1, -2, math.MinInt, math.MinInt + 1, 1<<40 + 1, 1 << 41, 1 << 48, 1 << 62, math.MaxInt} {
		l = append(l, Head{Seq: seq}, full(seq, 3), full(seq, ends(110)...), full(seq))
	}
	for _, seq := range []int{0, 3, 1 << 40} {
		l = append(l, full(seq), Head{Seq: seq, Full: true, Targets: []int{}})
		l = append(l, Head{Seq: seq, Targets: []int{3}}, Head{Seq: seq, Targets: []int{0}}, Head{Seq: seq, Targets: []int{1, 2, 3}}, Head{Seq: seq, Targets: ends(110)}, Head{Seq: seq, Targets: []int{-1}})
		for _, n := range []int{111, 112, 120, 125, 255, 256, 257, 366, 1000, 2000} {
			l = append(l, full(seq, ends(n)...))
		}
		l = append(l, full(seq, 0, 0), full(seq, 2, 2), full(seq, 1999, 1999), full(seq, 1, 2, 2), full(seq, 1, 1, 2), full(seq, 1, 2, 1), full(seq, 5, 5, 5))
		l = append(l, full(seq, 3, 2), full(seq, 1, 0), full(seq, 1, 3, 2), full(seq, 3, 1, 2), full(seq, 1, 2, 3, 0), full(seq, 1999, 0), full(seq, 0, 2, 4, 3, 5, 7))
		for _, at := range []int{-1, -2, math.MinInt, 2000, 2001, 65535, 65536, 65536 + 3, 1<<32 + 3, math.MaxInt} {
			l = append(l, full(seq, at), full(seq, 3, at), full(seq, at, 3), full(seq, 0, 1, at, 7), full(seq, slices.Concat(ends(109), []int{at})...))
		}
	}
	for k := range 109 {
		twice, fall := ends(110), ends(110)
		twice[k+1] = twice[k]
		fall[k], fall[k+1] = fall[k+1], fall[k]
		l = append(l, full(9, twice...), full(9, fall...))
	}
	return l
}

// sealed tells the sector of a body: zero bytes behind it, and the library's sum.
func sealed(body string) string {
	body += strings.Repeat("\x00", 252-len(body))
	x := crc32.ChecksumIEEE([]byte(body))
	return body + string([]byte{byte(x), byte(x >> 8), byte(x >> 16), byte(x >> 24)})
}

// half tells numbers in two bytes each.
func half(l ...int) string {
	var b []byte
	for _, n := range l {
		b = append(b, byte(n), byte(n>>8))
	}
	return string(b)
}

// long tells a number in eight bytes.
func long(n uint64) string {
	var b []byte
	for range 8 {
		b = append(b, byte(n))
		n >>= 8
	}
	return string(b)
}

// body tells what stands ahead of the zero bytes of a head's sector.
func body(h Head) string {
	first := "\x07\x00"
	if h.Full {
		first = "\x07\x01"
	}
	return first + long(uint64(h.Seq)) + half(len(h.Targets)) + half(h.Targets...)
}

// same tells whether two heads are one; a nil list is an empty one.
func same(a, b Head) bool {
	return a.Seq == b.Seq && a.Full == b.Full && slices.Equal(a.Targets, b.Targets)
}

// wantRead asks that Read tells the head want.
func wantRead(t *testing.T, what string, want Head, b string) {
	t.Helper()
	if got, e := Read(b); !same(got, want) || e != api.OK {
		t.Errorf("%s: %v, %d, not %v", what, got, e, want)
	}
}

// wantFault asks that Read answers the error want, and no head.
func wantFault(t *testing.T, what string, want api.Errno, b string) {
	t.Helper()
	if got, e := Read(b); got.Seq != 0 || got.Full || got.Targets != nil || e != want {
		t.Errorf("%s: %d bytes %.24x: %v, %d, not error %d", what, len(b), b, got, e, want)
	}
}

// wantNext asks that Next is Full, with the Seq and the targets.
func wantNext(t *testing.T, h Head, seq int, want []int, targets ...int) {
	t.Helper()
	if got := Next(h, targets...); !same(got, full(seq, want...)) {
		t.Errorf("of %v, %v: %v, not %d, Full, %v", h, targets, got, seq, want)
	}
}

// P801: Valid.

func TestP801Valid(t *testing.T) {
	for _, h := range heads() {
		if !Valid(h) {
			t.Errorf("%v may not be", h)
		}
	}
	for _, h := range misfits() {
		if Valid(h) {
			t.Errorf("%v may be", h)
		}
	}
}

func TestP801ValidSeq(t *testing.T) {
	for _, targets := range [][]int{nil, {5}} {
		valid := func(seq int) bool { return Valid(Head{Seq: seq, Full: targets != nil, Targets: targets}) }
		if !valid(0) || !valid(1) || !valid(1<<40) || !valid(1<<40-1) {
			t.Errorf("0 to 2^40 may not be, with %v", targets)
		}
		if valid(-1) || valid(1<<40+1) || valid(math.MaxInt) || valid(math.MinInt) {
			t.Errorf("what is not 0 to 2^40 may be, with %v", targets)
		}
	}
}

// P801: Lay.

func TestP801LayKnown(t *testing.T) {
	b, e := Lay(Head{Seq: 258, Full: true, Targets: []int{3, 300}})
	want := "\x07\x01\x02\x01\x00\x00\x00\x00\x00\x00\x02\x00\x03\x00\x2c\x01"
	if e != api.OK || len(b) != api.Sector || b[:16] != want || strings.Trim(b[16:252], "\x00") != "" || b != sealed(want) {
		t.Errorf("%x, %d, not %x", b, e, want)
	}
	b, e = Lay(Head{Seq: 7})
	want = "\x07\x00\x07\x00\x00\x00\x00\x00\x00\x00\x00\x00"
	if e != api.OK || b != sealed(want) {
		t.Errorf("%x, %d, not %x", b, e, want)
	}
	b, e = Lay(Head{})
	if e != api.OK || b != sealed("\x07") {
		t.Errorf("%x, %d, not 7 and zero bytes", b, e)
	}
}

func TestP801Lay(t *testing.T) {
	for _, h := range heads() {
		if got, e := Lay(h); got != sealed(body(h)) || e != api.OK {
			t.Errorf("%v: %x, %d, not %x", h, got, e, sealed(body(h)))
		}
	}
}

func TestP801LayWrong(t *testing.T) {
	for _, h := range misfits() {
		if got, e := Lay(h); got != "" || e != api.ErrArg {
			t.Errorf("%v: %x, %d, not ErrArg", h, got, e)
		}
	}
}

// P801: Read.

func TestP801ReadWhatWasLaid(t *testing.T) {
	for _, h := range heads() {
		b, e := Lay(h)
		if e != api.OK {
			t.Fatalf("%v: %d", h, e)
		}
		wantRead(t, "laid", h, b)
		wantRead(t, "laid by hand", h, sealed(body(h)))
	}
}

func TestP801ReadZeroBytes(t *testing.T) {
	zero := strings.Repeat("\x00", 1000)
	wantRead(t, "a sector of zero bytes", Head{}, zero[:256])
	for _, n := range []int{0, 1, 4, 252, 255, 257, 512, 1000} {
		wantFault(t, "zero bytes", api.ErrShort, zero[:n])
	}
	for k := range api.Sector {
		for _, by := range []byte{1, 7, 128, 255} {
			b := []byte(zero[:256])
			b[k] = by
			wantFault(t, "zero bytes but one", api.ErrSum, string(b))
		}
	}
	wantFault(t, "zero bytes, sealed", api.ErrForm, sealed(""))
}

func TestP801ReadAnotherLength(t *testing.T) {
	for _, b := range []string{sealed(body(full(258, 3, 300))), sealed(body(Head{Seq: 7})), sealed("\x06"), sample.Bytes(256)} {
		for n := range api.Sector {
			wantFault(t, "fewer", api.ErrShort, b[:n])
		}
		for _, n := range []int{1, 2, 4, 256, 65536} {
			wantFault(t, "zero bytes more", api.ErrShort, b+strings.Repeat("\x00", n))
			wantFault(t, "more", api.ErrShort, b+sample.Bytes(n))
			wantFault(t, "more ahead", api.ErrShort, sample.Bytes(n)+b)
		}
		wantFault(t, "two of them", api.ErrShort, b+b)
	}
}

func TestP801ReadOneByteChanged(t *testing.T) {
	for _, h := range []Head{{}, {Seq: 7}, full(258, 3, 300), full(1<<40, ends(110)...)} {
		b := []byte(sealed(body(h)))
		for k := range b {
			for by := 1; by < 256; by++ {
				b[k] ^= byte(by)
				wantFault(t, "changed", api.ErrSum, string(b))
				b[k] ^= byte(by)
			}
		}
		wantRead(t, "changed back", h, string(b))
	}
	for _, b := range []string{sample.Bytes(256), strings.Repeat("\xff", 256), strings.Repeat("\x07", 256)} {
		wantFault(t, "no sum", api.ErrSum, b)
	}
}

func TestP801ReadAnotherKind(t *testing.T) {
	for _, h := range []Head{{}, {Seq: 7}, full(258, 3, 300)} {
		for kind := range 256 {
			b := sealed(string([]byte{byte(kind)}) + body(h)[1:])
			if kind == api.Log {
				wantRead(t, "the kind", h, b)
			} else {
				wantFault(t, "another kind", api.ErrForm, b)
			}
		}
	}
}

func TestP801ReadAnotherFull(t *testing.T) {
	for _, h := range []Head{{}, {Seq: 7}, full(258, 3, 300)} {
		for f := range 256 {
			b := sealed("\x07" + string([]byte{byte(f)}) + body(h)[2:])
			if h.Full && f == 1 || !h.Full && f == 0 {
				wantRead(t, "its Full", h, b)
			} else {
				wantFault(t, "another Full", api.ErrForm, b)
			}
		}
	}
}

func TestP801ReadAnotherSeq(t *testing.T) {
	for _, rest := range []string{half(0), half(1, 5)} {
		first := "\x07" + rest[:1]
		want := Head{Full: rest[0] == 1}
		if want.Full {
			want.Targets = []int{5}
		}
		for _, seq := range []uint64{0, 1, 1<<40 - 1, 1 << 40} {
			want.Seq = int(seq)
			wantRead(t, "a Seq", want, sealed(first+long(seq)+rest))
		}
		for _, seq := range []uint64{1<<40 + 1, 1 << 41, 1 << 62, 1<<63 - 1, 1 << 63, 1<<63 + 1, math.MaxUint64} {
			wantFault(t, "a Seq that can't be", api.ErrForm, sealed(first+long(seq)+rest))
		}
	}
}

func TestP801ReadTargets(t *testing.T) {
	for _, h := range misfits() {
		if h.Seq < 0 || h.Seq > 1<<40 || len(h.Targets) > 120 || slices.ContainsFunc(h.Targets, func(at int) bool { return at < 0 || at > 65535 }) {
			continue // it can't be laid by hand
		}
		wantFault(t, "a head that can't be", api.ErrForm, sealed(body(h)))
	}
	for at := range 1 << 16 {
		b := sealed("\x07\x01" + long(3) + half(1, at))
		if at < api.Sectors {
			wantRead(t, "a target", full(3, at), b)
		} else {
			wantFault(t, "a target that is not there", api.ErrForm, b)
		}
	}
}

func TestP801ReadAnotherCount(t *testing.T) {
	for _, n := range []int{1, 2, 7, 109, 110} {
		l := ends(n)
		for _, count := range []int{0, 1, 2, 3, 6, 7, 8, 108, 109, 110, 111, 119, 120, 121, 256 + n, 65535} {
			b := sealed("\x07\x01" + long(3) + half(count) + half(l...))
			if count == n {
				wantRead(t, "as many", full(3, l...), b)
			} else {
				wantFault(t, "more or fewer", api.ErrForm, b)
			}
		}
	}
	wantFault(t, "one more, of zero bytes", api.ErrForm, sealed("\x07\x01"+long(3)+half(2, 5)))
	wantFault(t, "as many as there is room for", api.ErrForm, sealed("\x07\x01"+long(3)+half(120)+half(ends(120)...)))
	wantFault(t, "not Full, a target told", api.ErrForm, sealed("\x07\x00"+long(3)+half(1)))
}

func TestP801ReadSomethingBehind(t *testing.T) {
	for _, h := range []Head{{}, {Seq: 7}, full(258, 3, 300), full(1<<40, ends(110)...)} {
		b := body(h)
		for k := len(b); k < 252; k++ {
			for _, by := range []string{"\x01", "\x07", "\x80", "\xff"} {
				wantFault(t, "something behind", api.ErrForm, sealed(b+strings.Repeat("\x00", k-len(b))+by))
			}
		}
	}
}

// P801: which error comes first.

func TestP801FirstError(t *testing.T) {
	b := []byte(sealed(body(full(258, 3, 300))))
	b[0]++
	wantFault(t, "another length, no sum, another kind", api.ErrShort, string(b[:255]))
	wantFault(t, "no sum, another kind", api.ErrSum, string(b))
	wantFault(t, "fewer bytes than a sum", api.ErrShort, "abc")
}

// P802: Next.

func TestP802Next(t *testing.T) {
	wantNext(t, Head{Seq: 4}, 5, []int{3, 7}, 7, 3, 7)
	wantNext(t, Head{}, 1, nil)
	wantNext(t, Head{}, 1, nil, nil...)
	wantNext(t, Head{}, 1, nil, []int{}...)
	wantNext(t, Head{Seq: 4}, 5, []int{0}, 0)
	wantNext(t, Head{Seq: 4}, 5, []int{1999}, 1999)
	wantNext(t, Head{Seq: 4}, 5, []int{1, 2, 3}, 1, 2, 3)
	wantNext(t, Head{Seq: 4}, 5, []int{1, 2, 3}, 3, 2, 1)
	wantNext(t, Head{Seq: 4}, 5, []int{1, 2, 3}, 2, 3, 1)
	wantNext(t, Head{Seq: 4}, 5, []int{5}, 5, 5, 5)
	wantNext(t, Head{Seq: 4}, 5, []int{1, 2}, 1, 1, 2, 2)
	wantNext(t, Head{Seq: 4}, 5, []int{1, 2}, 2, 1, 2, 1, 2)
	wantNext(t, Head{Seq: 4}, 5, []int{9, 10, 100}, 100, 10, 9)
	wantNext(t, Head{Seq: 1<<40 - 1}, 1<<40, []int{6}, 6)
}

func TestP802NextOfAFullHead(t *testing.T) {
	wantNext(t, full(8, 1, 2), 9, []int{3, 4}, 4, 3)
	wantNext(t, full(8, 1, 2), 9, []int{1}, 1)
	wantNext(t, full(8, 1, 2), 9, nil)
}

func TestP802NextOfWhatCannotBe(t *testing.T) {
	wantNext(t, Head{Seq: 1 << 40}, 1<<40+1, []int{6}, 6)
	wantNext(t, Head{Seq: -1}, 0, []int{6}, 6)
	wantNext(t, Head{Seq: math.MinInt}, math.MinInt+1, nil)
	wantNext(t, Head{Seq: math.MaxInt - 1}, math.MaxInt, nil)
	wantNext(t, Head{Seq: math.MaxInt}, math.MaxInt, nil)
	wantNext(t, Head{Seq: 3, Targets: []int{9}}, 4, []int{-7, -1, 2000, math.MaxInt}, 2000, -1, math.MaxInt, -7, -1)
	wantNext(t, Head{}, 1, ends(111), ends(111)...)
}

func TestP802NextOfMany(t *testing.T) {
	for n := 1; n <= 300; n++ {
		var l []int
		for k := range n {
			l = append(l, (k*7919+n)%97)
		}
		want := map[int]int{}
		for _, at := range l {
			want[at]++
		}
		got := Next(Head{Seq: n}, l...)
		for k, at := range got.Targets {
			if want[at] == 0 || k > 0 && got.Targets[k-1] >= at {
				t.Errorf("of %v: %v", l, got.Targets)
			}
		}
		if len(got.Targets) != len(want) || got.Seq != n+1 || !got.Full {
			t.Errorf("of %v: %v", l, got)
		}
	}
}

func TestP802NextIsValid(t *testing.T) {
	for _, h := range heads() {
		if h.Seq == 1<<40 || !h.Full {
			continue
		}
		back := slices.Clone(h.Targets)
		slices.Reverse(back)
		if n := Next(h, slices.Concat(back, back)...); !Valid(n) || n.Seq != h.Seq+1 || !slices.Equal(n.Targets, h.Targets) {
			t.Errorf("%v: the next is %v", h, n)
		}
	}
}

// P802: Done.

func TestP802Done(t *testing.T) {
	all := append(heads(), misfits()...)
	for _, h := range all {
		if got := Done(h); got.Seq != h.Seq || got.Full || len(got.Targets) != 0 {
			t.Errorf("of %v: %v", h, got)
		}
	}
	if got := Done(Next(Head{Seq: 4}, 7, 3, 7)); !same(got, Head{Seq: 5}) {
		t.Errorf("of the next: %v", got)
	}
}

// Both: what is handed in stays, and what is answered is of its own.

func TestP801P802KeepWhatWasHandedIn(t *testing.T) {
	for _, h := range append(heads(), misfits()...) {
		had := Head{Seq: h.Seq, Full: h.Full, Targets: slices.Clone(h.Targets)}
		Valid(h)
		Lay(h)
		Done(h)
		Next(h, h.Targets...)
		if !same(h, had) {
			t.Errorf("what was handed in is now %v, and was %v", h, had)
		}
	}
	l := []int{7, 3, 7, 9, 1, 1}
	Next(Head{}, l[:3]...)
	Next(Head{}, l[:2]...)
	if !slices.Equal(l, []int{7, 3, 7, 9, 1, 1}) {
		t.Errorf("what was handed in is now %v", l)
	}
}

func TestP801P802AnswersAreTheirOwn(t *testing.T) {
	l := []int{3, 7, 9}
	n := Next(Head{Seq: 4}, l...)
	l[0], l[1], l[2] = 1000, 1001, 1002
	if !slices.Equal(n.Targets, []int{3, 7, 9}) {
		t.Errorf("the next's targets are now %v", n.Targets)
	}
	b, _ := Lay(n)
	one, _ := Read(b)
	two, _ := Read(b)
	one.Targets[0] = 1000
	n.Targets[1] = 1001
	if !slices.Equal(two.Targets, []int{3, 7, 9}) {
		t.Errorf("what was read is now %v", two.Targets)
	}
	wantRead(t, "again", full(5, 3, 7, 9), b)
}
