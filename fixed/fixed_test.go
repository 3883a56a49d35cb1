package fixed

import (
	"fmt"
	"math"
	"slices"
	"strings"
	"testing"
	"unsafe"

	"masonry/api"
	"masonry/sample"
)

// span tells a span.
func span(from, to int) api.Span { return api.Span{From: from, To: to} }

// spans tells spans of their places: from, to, from, to, and so on.
func spans(places ...int) []api.Span {
	var l []api.Span
	for k := 0; k < len(places); k += 2 {
		l = append(l, span(places[k], places[k+1]))
	}
	return l
}

// counted tells the spans of size bytes, n each, counted byte by byte.
func counted(n, size int) []api.Span {
	var l []api.Span
	for at := range size {
		if at%n == 0 {
			l = append(l, span(at, at))
		}
		l[len(l)-1].To++
	}
	return l
}

// wholes tells each list of spans that is n bytes, just as Whole asks.
func wholes(n int) [][]api.Span {
	if n == 0 {
		return [][]api.Span{nil}
	}
	var l [][]api.Span
	for from := range n {
		for _, ahead := range wholes(from) {
			l = append(l, append(slices.Clone(ahead), span(from, n)))
		}
	}
	return l
}

// wantCut asks that Cut answers want.
func wantCut(t *testing.T, what string, want []api.Span, n int, l ...string) {
	t.Helper()
	if got := Cut(n, l...); !slices.Equal(got, want) {
		t.Errorf("%s: Cut(%d, %d texts %.40q): %d spans %.200s, not %d: %.200s", what, n, len(l), l, len(got), fmt.Sprint(got), len(want), fmt.Sprint(want))
	}
}

// wantJoin asks that Join answers want.
func wantJoin(t *testing.T, what, want, s string, l ...api.Span) {
	t.Helper()
	if got, e := Join(s, l...); got != want || e != api.OK {
		t.Errorf("%s: Join(%d bytes %.40q, %.200s): %d bytes %.40q, %d, not %d bytes %.40q", what, len(s), s, fmt.Sprint(l), len(got), got, e, len(want), want)
	}
}

// wantJoinFault asks that Join answers ErrRange, and no bytes.
func wantJoinFault(t *testing.T, what, s string, l ...api.Span) {
	t.Helper()
	if got, e := Join(s, l...); got != "" || e != api.ErrRange {
		t.Errorf("%s: Join(%d bytes %.40q, %.200s): %d bytes %.40q, %d, not ErrRange", what, len(s), s, fmt.Sprint(l), len(got), got, e)
	}
}

// wantWhole asks that Whole answers want.
func wantWhole(t *testing.T, what string, want bool, n int, l ...api.Span) {
	t.Helper()
	if got := Whole(n, l...); got != want {
		t.Errorf("%s: Whole(%d, %.200s): %v", what, n, fmt.Sprint(l), got)
	}
}

// wantTouch asks that Touch answers first and behind.
func wantTouch(t *testing.T, what string, first, behind int, l []api.Span, from, to int) {
	t.Helper()
	if a, b := Touch(l, from, to); a != first || b != behind {
		t.Errorf("%s: Touch(%.200s, %d, %d): %d, %d, not %d, %d", what, fmt.Sprint(l), from, to, a, b, first, behind)
	}
}

// P1301: Cut.

func TestP1301Cut(t *testing.T) {
	wantCut(t, "example", spans(0, 4, 4, 5), 4, "abcde")
	wantCut(t, "in five texts", spans(0, 4, 4, 5), 4, "a", "b", "c", "d", "e")
	wantCut(t, "a text that goes over a border", spans(0, 4, 4, 8), 4, "abcdef", "gh")
	wantCut(t, "a border between texts", spans(0, 4, 4, 8), 4, "abcd", "efgh")
	wantCut(t, "texts shorter than a piece", spans(0, 5, 5, 9), 5, "abc", "def", "ghi")
	wantCut(t, "a text of several pieces", spans(0, 2, 2, 4, 4, 6, 6, 7), 2, "a", "bcdef", "g")
	wantCut(t, "by 1", spans(0, 1, 1, 2, 2, 3), 1, "abc")
	wantCut(t, "one byte by 1", spans(0, 1), 1, "a")
	wantCut(t, "one byte by 2", spans(0, 1), 2, "a")
	wantCut(t, "a length that n divides", spans(0, 3, 3, 6, 6, 9), 3, "abcdefghi")
	wantCut(t, "one more", spans(0, 3, 3, 6, 6, 9, 9, 10), 3, "abcdefghij")
	wantCut(t, "one less", spans(0, 3, 3, 6, 6, 8), 3, "abcdefgh")
	wantCut(t, "just the length", spans(0, 6), 6, "abcdef")
	wantCut(t, "one less than the length", spans(0, 5, 5, 6), 5, "abcdef")
	wantCut(t, "one more than the length", spans(0, 6), 7, "abcdef")
	wantCut(t, "half of it", spans(0, 3, 3, 6), 3, "abcdef")
	wantCut(t, "half of it and one", spans(0, 4, 4, 6), 4, "abcdef")
	wantCut(t, "a block", spans(0, 64, 64, 128, 128, 130), api.Block, sample.Bytes(130))
}

func TestP1301CutOfNoBytes(t *testing.T) {
	for _, l := range sample.Nothing() {
		for _, n := range slices.Concat([]int{1, 2, 3, 4, 64, 1200}, sample.Below(), sample.Great()) {
			wantCut(t, "no bytes", nil, n, l...)
		}
	}
	wantCut(t, "no list", nil, 4)
}

func TestP1301CutByNBelowOne(t *testing.T) {
	for _, n := range sample.Below() {
		wantCut(t, "a byte", nil, n, "a")
		wantCut(t, "bytes", nil, n, "abc")
		wantCut(t, "texts", nil, n, "abc", "", "de")
		wantCut(t, "many bytes", nil, n, sample.Bytes(1<<16))
	}
}

func TestP1301CutByAGreatN(t *testing.T) {
	for _, n := range sample.Great() {
		for _, size := range []int{1, 2, 3, 64, 257, 1<<20 + 63} {
			b := sample.Bytes(size)
			wantCut(t, "one text", spans(0, size), n, b)
			wantCut(t, "two texts", spans(0, size), n, b[:size/2], b[size/2:])
		}
	}
}

func TestP1301CutEachLength(t *testing.T) {
	for size := range 140 {
		b := sample.Bytes(size)
		for n := 1; n < 150; n++ {
			wantCut(t, "each length", counted(n, size), n, b)
		}
	}
	for _, size := range []int{1199, 1200, 1201, 4095, 4096, 65536} {
		b := sample.Bytes(size)
		for _, n := range []int{1, 2, 63, 64, 65, size/2 - 1, size / 2, size/2 + 1, size - 1, size, size + 1} {
			wantCut(t, "a long text", counted(n, size), n, b)
			wantCut(t, "a long text in three", counted(n, size), n, b[:size/3], b[size/3:size/2], b[size/2:])
		}
	}
}

func TestP1301CutOfTheSameBytesInSeveral(t *testing.T) {
	for _, size := range []int{0, 1, 2, 3, 7, 12, 25} {
		b := sample.Bytes(size)
		for n := 1; n < size+3; n++ {
			want := counted(n, size)
			for _, l := range sample.Cuts(b) {
				wantCut(t, "two or three texts", want, n, l...)
			}
			wantCut(t, "byte by byte", want, n, sample.Single(b)...)
			var l []string
			for _, x := range sample.Single(b) {
				l = append(l, "", x, "")
			}
			wantCut(t, "byte by byte, empty ones between", want, n, l...)
			wantCut(t, "empty ones ahead and behind", want, n, "", "", b, "", "")
		}
	}
}

func TestP1301CutLooksAtNoByte(t *testing.T) {
	b := sample.Each()
	for n := 1; n < 260; n++ {
		wantCut(t, "each byte", counted(n, 256), n, b)
		wantCut(t, "each byte, one by one", counted(n, 256), n, sample.Single(b)...)
	}
	for _, b := range sample.Blocks() {
		for _, n := range []int{1, 3, 16, 63, 64, 65} {
			wantCut(t, "one byte, over and over", counted(n, len(b)), n, b)
		}
	}
	wantCut(t, "bytes, not runes", spans(0, 2, 2, 4, 4, 6), 2, "\u20ac", "\xe2\x82\xac")
	wantCut(t, "no runes", spans(0, 1, 1, 2), 1, "\xff\x80")
}

// P1301: Join.

func TestP1301Join(t *testing.T) {
	s := "abcdef"
	wantJoin(t, "all", s, s, span(0, 6))
	wantJoin(t, "in two", s, s, spans(0, 2, 2, 6)...)
	wantJoin(t, "the front", "ab", s, span(0, 2))
	wantJoin(t, "the middle", "cd", s, span(2, 4))
	wantJoin(t, "the end", "ef", s, span(4, 6))
	wantJoin(t, "one byte", "f", s, span(5, 6))
	wantJoin(t, "with a gap", "abef", s, spans(0, 2, 4, 6)...)
	wantJoin(t, "out of order", "efcdab", s, spans(4, 6, 2, 4, 0, 2)...)
	wantJoin(t, "alike", "bcbcbc", s, spans(1, 3, 1, 3, 1, 3)...)
	wantJoin(t, "all, twice", s+s, s, spans(0, 6, 0, 6)...)
	wantJoin(t, "overlapping", "abcdcdef", s, spans(0, 4, 2, 6)...)
	wantJoin(t, "one within another", "abcdefcd", s, spans(0, 6, 2, 4)...)
	wantJoin(t, "back and forth", "fafa", s, spans(5, 6, 0, 1, 5, 6, 0, 1)...)
}

func TestP1301JoinOfEmptySpans(t *testing.T) {
	s := "abcdef"
	for at := range len(s) + 1 {
		wantJoin(t, "an empty one", "", s, span(at, at))
		wantJoin(t, "an empty one ahead", s, s, spans(at, at, 0, 6)...)
		wantJoin(t, "an empty one between", s, s, spans(0, 3, at, at, 3, 6)...)
		wantJoin(t, "an empty one behind", s, s, spans(0, 6, at, at)...)
		wantJoin(t, "empty ones alone", "", s, spans(at, at, 0, 0, at, at, 6, 6)...)
	}
	wantJoin(t, "of no bytes", "", "", span(0, 0))
	wantJoin(t, "several of no bytes", "", "", spans(0, 0, 0, 0, 0, 0)...)
}

func TestP1301JoinOfNoSpans(t *testing.T) {
	for _, s := range []string{"", "a", "abcdef", "\x00", sample.Bytes(1000)} {
		wantJoin(t, "no list", "", s)
		wantJoin(t, "a nil list", "", s, nil...)
		wantJoin(t, "an empty list", "", s, []api.Span{}...)
		wantJoin(t, "an empty list with room", "", s, spans(0, 1)[:0]...)
	}
}

// within tells each span within size bytes.
func within(size int) []api.Span {
	var l []api.Span
	for from := range size + 1 {
		for to := from; to <= size; to++ {
			l = append(l, span(from, to))
		}
	}
	return l
}

// picked tells the bytes of spans, one by one.
func picked(s string, l ...api.Span) string {
	var b []byte
	for _, x := range l {
		for at := x.From; at < x.To; at++ {
			b = append(b, s[at])
		}
	}
	return string(b)
}

func TestP1301JoinOfAnySpans(t *testing.T) {
	for _, s := range []string{"", "a", "ab", "abcde", "\x00\xff\x80\xe2\x82"} {
		l := within(len(s))
		for _, x := range l {
			wantJoin(t, "one", picked(s, x), s, x)
			for _, y := range l {
				wantJoin(t, "two", picked(s, x, y), s, x, y)
				for _, z := range l {
					wantJoin(t, "three", picked(s, x, y, z), s, x, y, z)
				}
			}
		}
		wantJoin(t, "all of them", picked(s, l...), s, l...)
	}
}

func TestP1301JoinOfAnyBytes(t *testing.T) {
	s := sample.Each()
	for at := range len(s) {
		wantJoin(t, "one byte", string([]byte{byte(at)}), s, span(at, at+1))
		wantJoin(t, "from there on", s[at:], s, span(at, 256))
		wantJoin(t, "turned", s[at:]+s[:at], s, span(at, 256), span(0, at))
	}
	b := sample.Bytes(1 << 16)
	l := counted(1, len(b))
	slices.Reverse(l)
	wantJoin(t, "many, the last one first", picked(b, l...), b, l...)
}

// astray tells spans that are not within size bytes.
func astray(size int) []api.Span {
	l := spans(-1, 0, -1, size, -1, -1, -2, -1, -size-1, size, -1, size+1, -1, -2) // From below 0
	l = append(l, spans(1, 0, 2, 1, size, size-1, size, -1, size, -size-1, 0, -1, 0, -2, size+1, size, size+1, 0, size+2, size+1)...)
	l = append(l, spans(0, size+1, 0, size+2, size, size+1, size+1, size+1, size+1, size+2, 0, 2*size+1, 0, 1<<31, 0, 1<<32, 0, 1<<32+size, 1<<32, 1<<32+size, -1<<32, -1<<32+size, 0, -1<<32+size, -1<<32, size, 1<<32, size)...)
	for _, at := range sample.Extremes() {
		l = append(l, spans(at, 0, at, size, at, at, 0, at, size, at)...)
		for _, to := range sample.Extremes() {
			l = append(l, span(at, to))
		}
	}
	return l
}

func TestP1301JoinAstray(t *testing.T) {
	for _, s := range []string{"", "a", "abc", "abcdef", sample.Bytes(300)} {
		size := len(s)
		for _, x := range astray(size) {
			wantJoinFault(t, "alone", s, x)
			wantJoinFault(t, "the first", s, x, span(0, size), span(0, 0))
			wantJoinFault(t, "in the middle", s, span(0, size), x, span(0, 0), span(size, size))
			wantJoinFault(t, "the last", s, span(0, size), span(0, 0), x)
			wantJoinFault(t, "behind an empty one", s, span(size, size), x)
			wantJoinFault(t, "twice", s, x, x)
		}
	}
}

func TestP1301JoinRange(t *testing.T) {
	for _, s := range []string{"", "a", "abcd"} {
		size := len(s)
		good := within(size)
		for from := -3; from < size+4; from++ {
			for to := -3; to < size+4; to++ {
				x := span(from, to)
				if slices.Contains(good, x) {
					wantJoin(t, "within", picked(s, x), s, x)
				} else {
					wantJoinFault(t, "not within", s, x)
					wantJoinFault(t, "not within, behind good ones", s, append(slices.Clone(good), x)...)
				}
			}
		}
	}
}

// P1301: Whole.

func TestP1301Whole(t *testing.T) {
	wantWhole(t, "no spans, no bytes", true, 0)
	wantWhole(t, "a nil list", true, 0, nil...)
	wantWhole(t, "an empty list", true, 0, []api.Span{}...)
	wantWhole(t, "no spans, a byte", false, 1)
	wantWhole(t, "no spans, below 0", false, -1)
	wantWhole(t, "one span", true, 3, span(0, 3))
	wantWhole(t, "a byte", true, 1, span(0, 1))
	wantWhole(t, "two spans", true, 3, spans(0, 1, 1, 3)...)
	wantWhole(t, "three spans", true, 6, spans(0, 1, 1, 3, 3, 6)...)
	wantWhole(t, "an empty one at the front", false, 3, spans(0, 0, 0, 3)...)
	wantWhole(t, "an empty one between", false, 3, spans(0, 1, 1, 1, 1, 3)...)
	wantWhole(t, "an empty one at the end", false, 3, spans(0, 3, 3, 3)...)
	wantWhole(t, "an empty one alone", false, 0, span(0, 0))
	wantWhole(t, "empty ones alone", false, 0, spans(0, 0, 0, 0)...)
	wantWhole(t, "a gap", false, 3, spans(0, 1, 2, 3)...)
	wantWhole(t, "an overlap", false, 3, spans(0, 2, 1, 3)...)
	wantWhole(t, "alike", false, 3, spans(0, 3, 0, 3)...)
	wantWhole(t, "one that goes back", false, 3, spans(0, 5, 5, 3)...)
	wantWhole(t, "one that goes back, and forth", false, 5, spans(0, 3, 3, 1, 1, 5)...)
	wantWhole(t, "there and back", false, 0, spans(0, 3, 3, 0)...)
	wantWhole(t, "back and there", false, 0, spans(0, -3, -3, 0)...)
	wantWhole(t, "from behind 0", false, 3, span(1, 3))
	wantWhole(t, "from below 0", false, 3, span(-1, 3))
	wantWhole(t, "from below 0 to 0", false, 0, span(-1, 0))
	wantWhole(t, "the others behind one from below 0", false, 3, spans(-1, 0, 0, 3)...)
	wantWhole(t, "ends below n", false, 4, spans(0, 1, 1, 3)...)
	wantWhole(t, "ends above n", false, 2, spans(0, 1, 1, 3)...)
	wantWhole(t, "one behind n", false, 3, spans(0, 3, 3, 4)...)
	wantWhole(t, "out of order", false, 3, spans(1, 3, 0, 1)...)
	wantWhole(t, "to below 0", false, -1, span(0, -1))
}

func TestP1301WholeOfAnySpans(t *testing.T) {
	var all []api.Span
	for from := -1; from < 5; from++ {
		for to := -1; to < 5; to++ {
			all = append(all, span(from, to))
		}
	}
	good := map[string]bool{}
	for n := range 5 {
		for _, l := range wholes(n) {
			good[fmt.Sprint(n, l)] = true
		}
	}
	for n := -2; n < 6; n++ {
		for _, x := range all {
			wantWhole(t, "one", good[fmt.Sprint(n, []api.Span{x})], n, x)
			for _, y := range all {
				wantWhole(t, "two", good[fmt.Sprint(n, []api.Span{x, y})], n, x, y)
				if x.To != y.From { // asked in two already
					continue
				}
				for _, z := range all {
					wantWhole(t, "three", good[fmt.Sprint(n, []api.Span{x, y, z})], n, x, y, z)
				}
			}
		}
	}
}

func TestP1301WholeOneChange(t *testing.T) {
	for n := range 9 {
		for _, l := range wholes(n) {
			wantWhole(t, "just so", true, n, l...)
			for _, m := range []int{n - 1, n + 1, -n - 1, n + 1<<32} {
				wantWhole(t, "another n", false, m, l...)
			}
			for k := range l {
				for _, by := range []int{-2, -1, 1, 2, 1 << 32} {
					c := slices.Clone(l)
					c[k].From += by
					wantWhole(t, "another From", false, n, c...)
					c[k].To += by
					wantWhole(t, "both", false, n, c...)
					c[k].From = l[k].From
					wantWhole(t, "another To", false, n, c...)
				}
				wantWhole(t, "one less", false, n, slices.Delete(slices.Clone(l), k, k+1)...)
				wantWhole(t, "one twice", false, n, slices.Insert(slices.Clone(l), k, l[k])...)
				wantWhole(t, "an empty one ahead", false, n, slices.Insert(slices.Clone(l), k, span(l[k].From, l[k].From))...)
				wantWhole(t, "an empty one behind", false, n, slices.Insert(slices.Clone(l), k+1, span(l[k].To, l[k].To))...)
			}
		}
	}
}

func TestP1301WholeAtTheEndsOfInts(t *testing.T) {
	least, most := math.MinInt, math.MaxInt
	wantWhole(t, "as many as can be", true, most, span(0, most))
	wantWhole(t, "in two", true, most, spans(0, 5, 5, most)...)
	wantWhole(t, "the last byte of them", true, most, spans(0, most-1, most-1, most)...)
	wantWhole(t, "one less", false, most-1, span(0, most))
	wantWhole(t, "one more", false, most, span(0, most-1))
	wantWhole(t, "from the least", false, most, span(least, most))
	wantWhole(t, "beyond and back", false, least, spans(0, most, most, least)...)
	wantWhole(t, "around", false, 3, spans(0, most, most, least, least, 3)...)
	wantWhole(t, "to the least", false, least, span(0, least))
	wantWhole(t, "from the least to 0", false, 0, spans(0, least, least, 0)...)
	wantWhole(t, "at the least", false, least, span(least, least))
	wantWhole(t, "at the greatest", false, most, span(most, most))
	wantWhole(t, "an empty one at the greatest", false, most, spans(0, most, most, most)...)
	for _, n := range sample.Extremes() {
		wantWhole(t, "no spans", false, n)
		wantWhole(t, "some", false, n, spans(0, 1, 1, 3)...)
	}
}

// P1302: Touch.

// touched tells which spans have a byte of a range, asked byte by byte.
func touched(l []api.Span, from, to int) (int, int) {
	var hit []int
	for k, x := range l {
		for at := x.From; at < x.To; at++ {
			if at >= from && at < to {
				hit = append(hit, k)
			}
		}
	}
	if len(hit) == 0 {
		return 0, 0
	}
	return slices.Min(hit), slices.Max(hit) + 1
}

func TestP1302Touch(t *testing.T) {
	l := spans(0, 4, 4, 6, 6, 10)
	wantTouch(t, "all", 0, 3, l, 0, 10)
	wantTouch(t, "just the first", 0, 1, l, 0, 4)
	wantTouch(t, "just the second", 1, 2, l, 4, 6)
	wantTouch(t, "just the last", 2, 3, l, 6, 10)
	wantTouch(t, "one byte each side of a border", 0, 2, l, 3, 5)
	wantTouch(t, "the byte ahead of a border", 0, 1, l, 3, 4)
	wantTouch(t, "the byte behind it", 1, 2, l, 4, 5)
	wantTouch(t, "over all of the second", 0, 3, l, 3, 7)
	wantTouch(t, "the last two", 1, 3, l, 5, 7)
	wantTouch(t, "the last byte", 2, 3, l, 9, 10)
	wantTouch(t, "within one", 2, 3, l, 7, 8)
	wantTouch(t, "no byte at a border", 0, 0, l, 4, 4)
	wantTouch(t, "no byte within one", 0, 0, l, 5, 5)
	wantTouch(t, "no byte within the last", 0, 0, l, 8, 8)
	wantTouch(t, "back", 0, 0, l, 6, 5)
	wantTouch(t, "far back", 0, 0, l, 10, 0)
	wantTouch(t, "back within one", 0, 0, l, 9, 7)
	wantTouch(t, "from below 0 on", 0, 1, l, -5, 1)
	wantTouch(t, "ahead of all", 0, 0, l, -5, 0)
	wantTouch(t, "below 0", 0, 0, l, -5, -2)
	wantTouch(t, "beyond the end", 2, 3, l, 9, 99)
	wantTouch(t, "from the end on", 0, 0, l, 10, 20)
	wantTouch(t, "behind the end", 0, 0, l, 12, 20)
	wantTouch(t, "over all", 0, 3, l, -5, 99)
}

func TestP1302TouchOfAnyRange(t *testing.T) {
	var lists [][]api.Span
	for n := range 9 {
		lists = append(lists, wholes(n)...)
	}
	for _, n := range []int{1, 2, 3, 7, 16, 40} {
		lists = append(lists, Cut(n, sample.Bytes(37)))
	}
	for _, l := range lists {
		size := 0
		if len(l) > 0 {
			size = l[len(l)-1].To
		}
		for from := -3; from < size+4; from++ {
			for to := -3; to < size+4; to++ {
				first, behind := touched(l, from, to)
				wantTouch(t, "any", first, behind, l, from, to)
			}
		}
	}
}

func TestP1302TouchOfNoSpans(t *testing.T) {
	for _, l := range [][]api.Span{nil, {}, spans(0, 4)[:0]} {
		for _, from := range slices.Concat([]int{-1, 0, 1, 5}, sample.Extremes()) {
			for _, to := range slices.Concat([]int{-1, 0, 1, 5}, sample.Extremes()) {
				wantTouch(t, "no spans", 0, 0, l, from, to)
			}
		}
	}
}

func TestP1302TouchAtTheEndsOfInts(t *testing.T) {
	l := spans(0, 4, 4, 6, 6, 10)
	for _, most := range []int{1 << 32, 1<<32 + 1, math.MaxInt - 1, math.MaxInt} {
		for _, least := range []int{-1 << 32, -1<<32 + 1, math.MinInt + 1, math.MinInt} {
			wantTouch(t, "over all", 0, 3, l, least, most)
			wantTouch(t, "back", 0, 0, l, most, least)
			for at := -2; at < 13; at++ {
				first, behind := touched(l, at, 10)
				wantTouch(t, "from there on", first, behind, l, at, most)
				first, behind = touched(l, 0, at)
				wantTouch(t, "up to there", first, behind, l, least, at)
				wantTouch(t, "back to there", 0, 0, l, most, at)
				wantTouch(t, "back from there", 0, 0, l, at, least)
			}
			wantTouch(t, "nothing at the least", 0, 0, l, least, least)
			wantTouch(t, "nothing at the greatest", 0, 0, l, most, most)
			wantTouch(t, "at the least", 0, 0, l, least, least+1)
			wantTouch(t, "at the greatest", 0, 0, l, most-1, most)
		}
	}
	l = spans(0, 1, 1, math.MaxInt-1, math.MaxInt-1, math.MaxInt)
	wantTouch(t, "all there is", 0, 3, l, math.MinInt, math.MaxInt)
	wantTouch(t, "the last byte there is", 2, 3, l, math.MaxInt-1, math.MaxInt)
	wantTouch(t, "the bytes ahead of it", 1, 2, l, math.MaxInt-3, math.MaxInt-1)
	wantTouch(t, "none behind it", 0, 0, l, math.MaxInt, math.MaxInt)
	wantTouch(t, "but the first", 1, 3, l, 1, math.MaxInt)
}

func TestP1302TouchOfMany(t *testing.T) {
	const many = 5000
	ones, blocks := counted(1, many), counted(64, 64*many+9)
	wantTouch(t, "all", 0, many, ones, 0, many)
	wantTouch(t, "all blocks", 0, many+1, blocks, 0, 64*many+9)
	wantTouch(t, "the last block", many, many+1, blocks, 64*many, math.MaxInt)
	for at := 0; at < many; at += 7 {
		wantTouch(t, "a byte", at, at+1, ones, at, at+1)
		wantTouch(t, "from there on", at, many, ones, at, math.MaxInt)
		wantTouch(t, "a block", at, at+1, blocks, 64*at, 64*at+64)
		wantTouch(t, "a block and a byte", at, at+2, blocks, 64*at, 64*at+65)
		wantTouch(t, "a block, but for its first byte", at, at+1, blocks, 64*at+1, 64*at+64)
		wantTouch(t, "from the byte ahead of a block on", max(at-1, 0), many+1, blocks, 64*at-1, 64*many+9)
	}
	for at := 1; at <= many; at += 7 {
		wantTouch(t, "up to there", 0, at, ones, math.MinInt, at)
		wantTouch(t, "blocks up to there", 0, at, blocks, 0, 64*at)
	}
}

// P1301, P1302: the calls beside each other.

func TestP1301WhatCutAnswersIsWholeAndJoined(t *testing.T) {
	for _, b := range slices.Concat(sample.Lengths()[:600], sample.Blocks(), []string{sample.Each(), sample.Bytes(4096)}) {
		for _, n := range []int{1, 2, 3, 32, 63, 64, 65, len(b) / 2, len(b) - 1, len(b), len(b) + 1, math.MaxInt} {
			if n < 1 {
				continue
			}
			l := Cut(n, b)
			wantWhole(t, "what Cut answers", true, len(b), l...)
			wantWhole(t, "of more bytes", false, len(b)+1, l...)
			wantWhole(t, "of fewer bytes", false, len(b)-1, l...)
			wantJoin(t, "what Cut answers", b, b, l...)
		}
	}
}

func TestP1302WhatTouchTellsHasTheBytes(t *testing.T) {
	s := sample.Bytes(70)
	for _, n := range []int{1, 3, 16, 35, 69, 70, 71} {
		l := Cut(n, s)
		for from := range len(s) {
			for to := from + 1; to <= len(s); to++ {
				first, behind := Touch(l, from, to)
				if behind <= first || behind > len(l) {
					t.Fatalf("by %d, %d to %d: %d, %d", n, from, to, first, behind)
				}
				at := l[first].From
				b, e := Join(s, l[first:behind]...)
				if e != api.OK || len(b) < to-at || b[from-at:to-at] != s[from:to] || from-at >= n || at+len(b)-to >= n {
					t.Errorf("by %d, %d to %d: %d, %d: %d bytes, %d", n, from, to, first, behind, len(b), e)
				}
			}
		}
	}
}

// P1301, P1302: what is handed in stays, and what is answered is of its own.

func TestP1301KeepsWhatWasHandedIn(t *testing.T) {
	texts, l := []string{"abc", "", "defg", "h", "i"}, spans(0, 3, 3, 5, 5, 8, -1, 20, 2, 1)
	hadTexts, had := slices.Clone(texts), slices.Clone(l)
	for n := range len(texts) + 1 {
		wantCut(t, "a list with room", counted(2, len(strings.Join(texts[:n], ""))), 2, texts[:n]...)
		Cut(0, texts[:n]...)
	}
	for n := range len(l) + 1 {
		wantWhole(t, "a list with room", n == 3, 8, l[:n]...)
		if n <= 3 {
			wantJoin(t, "a list with room", picked("abcdefgh", l[:n]...), "abcdefgh", l[:n]...)
		} else {
			wantJoinFault(t, "a list with room", "abcdefgh", l[:n]...)
		}
		Touch(l[:n], 2, 6)
		Touch(l[:n], math.MinInt, math.MaxInt)
	}
	if !slices.Equal(texts, hadTexts) || !slices.Equal(l, had) {
		t.Errorf("what was handed in, or its room, is now %q, %v", texts, l)
	}
}

func TestP1301AnswersAreTheirOwn(t *testing.T) {
	texts := []string{"abcde", "fghij"}
	want := spans(0, 4, 4, 8, 8, 10)
	one, two := Cut(4, texts...), Cut(4, texts...)
	one[0], one[2] = span(7, 7), span(9, 9)
	_ = append(one[:1], span(5, 5))
	if !slices.Equal(two, want) {
		t.Errorf("behind a change of another answer: %v", two)
	}
	wantCut(t, "behind a change of an answer", want, 4, texts...)
	Cut(1, texts...)
	Join("abcdefghij", two...)
	Whole(10, two...)
	Touch(two, 0, 10)
	texts[0], texts[1] = "", "x"
	if !slices.Equal(two, want) {
		t.Errorf("behind later calls, and a change of what was handed in: %v", two)
	}
}

func TestP1301JoinIsItsOwn(t *testing.T) {
	for _, l := range [][]api.Span{spans(0, 9), spans(2, 5), spans(0, 4, 4, 9), spans(3, 3, 0, 9, 9, 9)} {
		b := []byte("abcdefghi")
		s := unsafe.String(&b[0], len(b)) // a text that can be changed: what shares its memory shows it
		want := picked(s, l...)
		one, e := Join(s, l...)
		two, f := Join(s, l...)
		if e != api.OK || f != api.OK || unsafe.StringData(one) == unsafe.StringData(two) {
			t.Errorf("%v: %d, %d, or two answers share their memory", l, e, f)
		}
		for k := range b {
			b[k] = 'x'
		}
		if one != want || two != want {
			t.Errorf("%v: behind a change of what was handed in: %q, %q, not %q", l, one, two, want)
		}
	}
}
