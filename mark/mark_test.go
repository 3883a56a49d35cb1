package mark

import (
	"cmp"
	"crypto/sha1"
	"crypto/sha256"
	"encoding/hex"
	"math"
	"slices"
	"strings"
	"testing"

	"masonry/api"
	"masonry/sample"
)

// kinds tells the kinds that there are.
func kinds() []int { return []int{api.ShaOne, api.ShaTwo} }

// others tells numbers that are no kind: beside the kinds, as low in their lowest bytes, and at the ends.
func others() []int {
	return []int{-2, -1, 0, 3, 4, 20, 32, 33, 127, 128, 255, 256, 257, 258, 1<<16 + 1, 1<<32 + 1, 1<<32 + 2, math.MaxInt64, math.MaxInt64 - 1, math.MinInt64, math.MinInt64 + 1, math.MinInt64 + 2}
}

// size tells how many bytes a print of the kind has.
func size(kind int) int {
	if kind == api.ShaOne {
		return sha1.Size
	}
	return sha256.Size
}

// library tells the print of b by the library's digests.
func library(kind int, b string) api.Print {
	if kind == api.ShaOne {
		sum := sha1.Sum([]byte(b))
		return api.Print{Kind: kind, Sum: string(sum[:])}
	}
	sum := sha256.Sum256([]byte(b))
	return api.Print{Kind: kind, Sum: string(sum[:])}
}

// filled tells a print of the kind, all of whose bytes are b.
func filled(kind int, b byte) api.Print {
	return api.Print{Kind: kind, Sum: strings.Repeat(string([]byte{b}), size(kind))}
}

// prints tells prints that may be.
func prints() []api.Print {
	var l []api.Print
	for _, kind := range kinds() {
		l = append(l, library(kind, ""), library(kind, "abc"), filled(kind, 0), filled(kind, 1), filled(kind, 127), filled(kind, 128), filled(kind, 255), api.Print{Kind: kind, Sum: sample.Bytes(size(kind))})
	}
	return l
}

// misfits tells prints that can't be: of no kind, of fewer or more bytes than their kind has, of none.
func misfits() []api.Print {
	l := []api.Print{{}, {Kind: 1, Sum: sample.Bytes(32)}, {Kind: 2, Sum: sample.Bytes(20)}, {Kind: 2, Sum: "short"}}
	for _, kind := range kinds() {
		for _, n := range []int{0, 1, 2, size(kind) - 2, size(kind) - 1, size(kind) + 1, size(kind) + 2, 33, 34, 2 * size(kind), 256 + size(kind), 65536 + size(kind)} {
			l = append(l, api.Print{Kind: kind, Sum: sample.Bytes(n)})
		}
	}
	for _, kind := range others() {
		for _, n := range []int{0, 1, 20, 32, 33} {
			l = append(l, api.Print{Kind: kind, Sum: sample.Bytes(n)})
		}
	}
	return l
}

// bytesOf tells the 33 bytes of a print.
func bytesOf(p api.Print) string {
	return string([]byte{byte(p.Kind)}) + p.Sum + strings.Repeat("\x00", 32-len(p.Sum))
}

// wantOf asks that Of l is the print of want, of each kind.
func wantOf(t *testing.T, what, want string, l ...string) {
	t.Helper()
	for _, kind := range kinds() {
		if got, e := Of(kind, l...); got != library(kind, want) || e != api.OK {
			t.Errorf("%s, kind %d: %d texts %.40q: %x, %d, not %x", what, kind, len(l), l, got, e, library(kind, want))
		}
	}
}

// wantRead asks that Read tells the print want.
func wantRead(t *testing.T, what string, want api.Print, b string) {
	t.Helper()
	if got, e := Read(b); got != want || e != api.OK {
		t.Errorf("%s: %x: %x, %d, not %x", what, b, got, e, want)
	}
}

// wantReadFault asks that Read answers the error want, and no print.
func wantReadFault(t *testing.T, what string, want api.Errno, b string) {
	t.Helper()
	if got, e := Read(b); got != (api.Print{}) || e != want {
		t.Errorf("%s: %d bytes %.40x: %x, %d, not error %d", what, len(b), b, got, e, want)
	}
}

// wantCompare asks how a stands to b, and b to a.
func wantCompare(t *testing.T, want int, a, b api.Print) {
	t.Helper()
	if got, back := Compare(a, b), Compare(b, a); got != want || back != -want {
		t.Errorf("%d %.20x and %d %.20x: %d, and the other way %d, not %d", a.Kind, a.Sum, b.Kind, b.Sum, got, back, want)
	}
}

// P601: Size.

func TestP601Size(t *testing.T) {
	if one, two := Size(api.ShaOne), Size(api.ShaTwo); one != 20 || two != 32 {
		t.Errorf("%d and %d, not 20 and 32", one, two)
	}
	for _, kind := range others() {
		if got := Size(kind); got != 0 {
			t.Errorf("kind %d: %d, not 0", kind, got)
		}
	}
}

// P601: Of.

func TestP601OfKnown(t *testing.T) {
	known := []struct {
		kind int
		want string
		l    []string
	}{
		{api.ShaOne, "a9993e364706816aba3e25717850c26c9cd0d89d", []string{"a", "bc"}},
		{api.ShaOne, "da39a3ee5e6b4b0d3255bfef95601890afd80709", nil},
		{api.ShaTwo, "ba7816bf8f01cfea414140de5dae2223b00361a396177a9cb410ff61f20015ad", []string{"a", "bc"}},
		{api.ShaTwo, "e3b0c44298fc1c149afbf4c8996fb92427ae41e4649b934ca495991b7852b855", nil},
	}
	for _, k := range known {
		p, e := Of(k.kind, k.l...)
		if got := hex.EncodeToString([]byte(p.Sum)); p.Kind != k.kind || got != k.want || e != api.OK {
			t.Errorf("kind %d of %q: kind %d, %s, %d, not %s", k.kind, k.l, p.Kind, got, e, k.want)
		}
	}
}

func TestP601OfTexts(t *testing.T) {
	wantOf(t, "no texts", "")
	wantOf(t, "a nil list", "", nil...)
	wantOf(t, "an empty list", "", []string{}...)
	wantOf(t, "an empty text", "", "")
	wantOf(t, "empty texts", "", "", "", "")
	wantOf(t, "one text", "abc", "abc")
	wantOf(t, "between empty ones", "abc", "", "a", "", "", "bc", "")
	wantOf(t, "in order", "cab", "c", "ab")
	wantOf(t, "not runes", "\xff\x80\xe2\x82\xac", "\xff\x80\xe2", "\x82\xac")
	wantOf(t, "zero bytes", "\x00\x00", "\x00", "\x00")
}

func TestP601OfEachLength(t *testing.T) {
	for _, b := range sample.Lengths() {
		wantOf(t, "a length", b, b)
	}
	for _, l := range sample.Edges() {
		wantOf(t, "an edge", strings.Join(l, ""), l...)
	}
}

func TestP601OfOneTextCut(t *testing.T) {
	for _, n := range []int{0, 1, 2, 32, 33, 34, 65} {
		b := sample.Bytes(n)
		for _, l := range sample.Cuts(b) {
			wantOf(t, "cut", b, l...)
		}
		wantOf(t, "byte by byte", b, sample.Single(b)...)
	}
}

func TestP601OfAnotherKind(t *testing.T) {
	for _, kind := range others() {
		for _, l := range [][]string{nil, {}, {""}, {"a"}, {"a", "bc"}, {sample.Bytes(1000)}} {
			if got, e := Of(kind, l...); got != (api.Print{}) || e != api.ErrArg {
				t.Errorf("kind %d of %d texts: %x, %d, not ErrArg", kind, len(l), got, e)
			}
		}
	}
}

func TestP601OfKeepsWhatWasHandedIn(t *testing.T) {
	l := []string{"a", "", sample.Bytes(70), "d"}
	had := slices.Clone(l)
	wantOf(t, "all", strings.Join(had, ""), l...)
	wantOf(t, "a list with room", "a", l[:2]...)
	wantOf(t, "all again", strings.Join(had, ""), l...)
	for _, kind := range others() {
		Of(kind, l[:1]...)
	}
	if !slices.Equal(l, had) {
		t.Errorf("what was handed in is now %q", l)
	}
}

// P601: Valid.

func TestP601Valid(t *testing.T) {
	for _, p := range prints() {
		if !Valid(p) {
			t.Errorf("%x may not be", p)
		}
	}
	for _, p := range misfits() {
		if Valid(p) {
			t.Errorf("kind %d, %d bytes %.40x may be", p.Kind, len(p.Sum), p.Sum)
		}
	}
}

func TestP601ValidOfWhatOfTells(t *testing.T) {
	for _, kind := range kinds() {
		for _, b := range sample.Blocks() {
			if p, _ := Of(kind, b); !Valid(p) {
				t.Errorf("the print %x of %x may not be", p, b)
			}
		}
	}
}

// P601: Lay.

func TestP601Lay(t *testing.T) {
	for _, p := range prints() {
		if got, e := Lay(p); got != bytesOf(p) || e != api.OK {
			t.Errorf("%x: %x, %d, not %x", p, got, e, bytesOf(p))
		}
	}
}

func TestP601LayKnown(t *testing.T) {
	one, two := filled(api.ShaOne, 'x'), filled(api.ShaTwo, 'y')
	const layOne = "\x01xxxxxxxxxxxxxxxxxxxx\x00\x00\x00\x00\x00\x00\x00\x00\x00\x00\x00\x00"
	const layTwo = "\x02yyyyyyyyyyyyyyyyyyyyyyyyyyyyyyyy"
	if got, e := Lay(one); got != layOne || e != api.OK {
		t.Errorf("%q, %d, not %q", got, e, layOne)
	}
	if got, e := Lay(two); got != layTwo || e != api.OK {
		t.Errorf("%q, %d, not %q", got, e, layTwo)
	}
	wantRead(t, "x", one, layOne)
	wantRead(t, "y", two, layTwo)
}

func TestP601LayWrong(t *testing.T) {
	for _, p := range misfits() {
		if got, e := Lay(p); got != "" || e != api.ErrArg {
			t.Errorf("kind %d, %d bytes %.40x: %x, %d, not ErrArg", p.Kind, len(p.Sum), p.Sum, got, e)
		}
	}
}

// P601: Read.

func TestP601ReadWhatWasLaid(t *testing.T) {
	for _, p := range prints() {
		b, e := Lay(p)
		if len(b) != 33 || e != api.OK {
			t.Fatalf("%x: %d bytes, %d", p, len(b), e)
		}
		wantRead(t, "laid", p, b)
		wantRead(t, "laid, again", p, b)
	}
}

func TestP601ReadOfAnotherLength(t *testing.T) {
	for _, p := range append(prints(), api.Print{}, api.Print{Kind: 3, Sum: sample.Bytes(32)}) {
		b := bytesOf(p)
		for n := range 33 {
			wantReadFault(t, "fewer", api.ErrShort, b[:n])
		}
		for _, n := range []int{1, 2, 32, 33, 34, 256, 65536, 1 << 20} {
			wantReadFault(t, "zero bytes more", api.ErrShort, b+strings.Repeat("\x00", n))
			wantReadFault(t, "more", api.ErrShort, b+sample.Bytes(n))
		}
		wantReadFault(t, "a byte ahead", api.ErrShort, "\x01"+b)
	}
}

func TestP601ReadOfAnotherKind(t *testing.T) {
	for kind := range 256 {
		if slices.Contains(kinds(), kind) {
			continue
		}
		first := string([]byte{byte(kind)})
		for _, sum := range []string{strings.Repeat("\x00", 32), strings.Repeat("\xff", 32), sample.Bytes(32), sample.Bytes(20) + strings.Repeat("\x00", 12)} {
			wantReadFault(t, "another kind", api.ErrForm, first+sum)
		}
	}
}

func TestP601ReadBytesBehindAShortPrint(t *testing.T) {
	for _, p := range []api.Print{library(api.ShaOne, "abc"), filled(api.ShaOne, 0), filled(api.ShaOne, 255)} {
		b := bytesOf(p)
		for k := 21; k < 33; k++ {
			for by := 1; by < 256; by++ {
				wantReadFault(t, "a byte behind", api.ErrForm, sample.Changed(b, k, byte(by)))
			}
		}
		wantReadFault(t, "bytes behind", api.ErrForm, b[:21]+strings.Repeat("\xff", 12))
	}
	wantReadFault(t, "a long print as a short one", api.ErrForm, "\x01"+library(api.ShaTwo, "abc").Sum)
}

func TestP601ReadEachByteCounts(t *testing.T) {
	for _, p := range prints() {
		b := bytesOf(p)
		for k := range len(p.Sum) {
			for _, by := range []byte{1, 128, 255} {
				want := api.Print{Kind: p.Kind, Sum: sample.Changed(p.Sum, k, by)}
				wantRead(t, "a byte changed", want, sample.Changed(b, k+1, by))
			}
		}
	}
}

// P602: Compare.

// rising tells prints, each greater than the one ahead of it.
func rising() []api.Print {
	return []api.Print{
		{Kind: math.MinInt64, Sum: "\xff"},
		{Kind: -1, Sum: ""}, {Kind: -1, Sum: "\xff"},
		{Kind: 0, Sum: ""}, {Kind: 0, Sum: "\x00"}, {Kind: 0, Sum: sample.Bytes(40)},
		{Kind: 1, Sum: ""}, {Kind: 1, Sum: "\x00"}, {Kind: 1, Sum: "\x00\x00"}, {Kind: 1, Sum: "\x00\x01"}, {Kind: 1, Sum: "\x00\xff"}, {Kind: 1, Sum: "\x01"},
		{Kind: 1, Sum: "B"}, {Kind: 1, Sum: "a"}, {Kind: 1, Sum: "a\x00"}, {Kind: 1, Sum: "aa"}, {Kind: 1, Sum: "ab"}, {Kind: 1, Sum: "abc"}, {Kind: 1, Sum: "b"},
		{Kind: 1, Sum: "\x7f"}, {Kind: 1, Sum: "\x7f\xff"}, {Kind: 1, Sum: "\x80"}, {Kind: 1, Sum: "\x80\x00"}, {Kind: 1, Sum: "\x81"}, {Kind: 1, Sum: "\xe2\x82\xac"},
		{Kind: 1, Sum: "\xff"}, {Kind: 1, Sum: "\xff\x7f"}, {Kind: 1, Sum: "\xff\x80"}, {Kind: 1, Sum: strings.Repeat("\xff", 40)},
		{Kind: 2, Sum: ""}, {Kind: 2, Sum: "\x00"}, {Kind: 2, Sum: "a"}, {Kind: 2, Sum: "\xff"},
		{Kind: 3, Sum: ""}, {Kind: 257, Sum: "a"}, {Kind: 1<<32 + 1, Sum: "a"}, {Kind: math.MaxInt64, Sum: ""},
	}
}

func TestP602Compare(t *testing.T) {
	l := rising()
	for j, a := range l {
		for k, b := range l {
			wantCompare(t, cmp.Compare(j, k), a, b)
		}
	}
}

func TestP602CompareKindAlone(t *testing.T) {
	for _, sum := range []string{"", "a", sample.Bytes(20), sample.Bytes(32), "\xff"} {
		wantCompare(t, -1, api.Print{Kind: 1, Sum: sum}, api.Print{Kind: 2, Sum: sum})
		wantCompare(t, 0, api.Print{Kind: 1, Sum: sum}, api.Print{Kind: 1, Sum: sum})
	}
	wantCompare(t, -1, filled(api.ShaOne, 255), filled(api.ShaTwo, 0))
}

func TestP602CompareOneByteAlone(t *testing.T) {
	for _, kind := range kinds() {
		for k := range size(kind) {
			for _, pair := range [][2]byte{{0, 1}, {0, 255}, {127, 128}, {1, 128}, {128, 129}, {254, 255}} {
				b := []byte(sample.Bytes(size(kind)))
				b[k] = pair[0]
				less := api.Print{Kind: kind, Sum: string(b)}
				b[k] = pair[1]
				wantCompare(t, -1, less, api.Print{Kind: kind, Sum: string(b)})
			}
		}
	}
}

func TestP602CompareTheFirstByteThatDiffers(t *testing.T) {
	for _, kind := range kinds() {
		n := size(kind)
		for k := range n - 1 {
			less := strings.Repeat("m", k) + "a" + strings.Repeat("z", n-k-1)
			more := strings.Repeat("m", k) + "b" + strings.Repeat("a", n-k-1)
			wantCompare(t, -1, api.Print{Kind: kind, Sum: less}, api.Print{Kind: kind, Sum: more})
		}
	}
}

func TestP602CompareABeginning(t *testing.T) {
	for _, kind := range append(kinds(), others()...) {
		b := sample.Bytes(33)
		for k := range len(b) {
			wantCompare(t, -1, api.Print{Kind: kind, Sum: b[:k]}, api.Print{Kind: kind, Sum: b})
		}
	}
}

// P602: Hash.

// wantHash asks that Hash is want, of whatever kind.
func wantHash(t *testing.T, want int, sum string) {
	t.Helper()
	for _, kind := range append(kinds(), others()...) {
		if got := Hash(api.Print{Kind: kind, Sum: sum}); got != want {
			t.Errorf("kind %d, %d bytes %.20x: %#x, not %#x", kind, len(sum), sum, got, want)
		}
	}
}

func TestP602Hash(t *testing.T) {
	wantHash(t, 0, "")
	wantHash(t, 0, "\x00")
	wantHash(t, 0, "a")
	wantHash(t, 0, "\xff")
	wantHash(t, 0, "\x00\x00")
	wantHash(t, 0x6261, "ab")
	wantHash(t, 0x6261, "abc")
	wantHash(t, 1, "\x01\x00")
	wantHash(t, 256, "\x00\x01")
	wantHash(t, 0x0080, "\x80\x00")
	wantHash(t, 0x8000, "\x00\x80")
	wantHash(t, 0xffff, "\xff\xff")
	wantHash(t, 0xff7f, "\x7f\xff\x00\x00\x00")
	wantHash(t, 0x99a9, library(api.ShaOne, "abc").Sum)
	wantHash(t, 0x78ba, library(api.ShaTwo, "abc").Sum)
	wantHash(t, 0x6261, "ab"+sample.Bytes(70000))
}

func TestP602HashOfEachTwoBytes(t *testing.T) {
	for n := range 1 << 16 {
		sum := string([]byte{byte(n), byte(n >> 8), 0xa5})
		if got := Hash(api.Print{Kind: 1, Sum: sum}); got != n {
			t.Errorf("%x: %d, not %d", sum, got, n)
		}
	}
}

// P602: Text.

// wantText asks that Text is want, of whatever kind.
func wantText(t *testing.T, want, sum string) {
	t.Helper()
	for _, kind := range append(kinds(), others()...) {
		if got := Text(api.Print{Kind: kind, Sum: sum}); got != want {
			t.Errorf("kind %d, %d bytes %.20x: %.60q, not %.60q", kind, len(sum), sum, got, want)
		}
	}
}

func TestP602Text(t *testing.T) {
	wantText(t, "", "")
	wantText(t, "00", "\x00")
	wantText(t, "0a", "\n")
	wantText(t, "a0", "\xa0")
	wantText(t, "7f", "\x7f")
	wantText(t, "80", "\x80")
	wantText(t, "ff", "\xff")
	wantText(t, "00ff", "\x00\xff")
	wantText(t, "616200", "ab\x00")
	wantText(t, "e282ac", "\u20ac")
	wantText(t, "a9993e364706816aba3e25717850c26c9cd0d89d", library(api.ShaOne, "abc").Sum)
	wantText(t, "ba7816bf8f01cfea414140de5dae2223b00361a396177a9cb410ff61f20015ad", library(api.ShaTwo, "abc").Sum)
}

func TestP602TextOfEachByteAndLength(t *testing.T) {
	for _, b := range append(sample.Blocks(), sample.Lengths()...) {
		if got := Text(api.Print{Kind: 1, Sum: b}); got != hex.EncodeToString([]byte(b)) {
			t.Errorf("%d bytes %.20x: %.60q", len(b), b, got)
		}
	}
}

func TestP602KeepsWhatWasHandedIn(t *testing.T) {
	for _, p := range append(append(prints(), misfits()...), rising()...) {
		had := api.Print{Kind: p.Kind, Sum: strings.Clone(p.Sum)}
		text, hash := Text(p), Hash(p)
		Valid(p)
		Lay(p)
		wantCompare(t, 0, p, had)
		if p != had || Text(p) != text || Hash(p) != hash {
			t.Errorf("what was handed in is now %x, and was %x", p, had)
		}
	}
}
