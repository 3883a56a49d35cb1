package split_test

import (
	"fmt"
	"math"
	"slices"
	"strings"
	"testing"

	"masonry/api"
	"masonry/cdc"
	"masonry/fixed"
	"masonry/sample"
	"masonry/split"
)

var _ = []split.Cutter{split.Even{}, split.Uneven{}}

// span tells a span.
func span(from, to int) api.Span { return api.Span{From: from, To: to} }

// even tells the cutter of pieces of n bytes each.
func even(n int) split.Even { return split.Even{N: n} }

// uneven tells the cutter of a rule.
func uneven(least, mid, most, hard, soft int) split.Uneven {
	return split.Uneven{Rule: cdc.Rule{Min: least, Mid: mid, Max: most, Hard: hard, Soft: soft}}
}

// stores tells the cutter of the rule of stores, written out.
func stores() split.Uneven { return uneven(32, 64, 128, 7, 5) }

// rules tells cutters of rules that are valid.
func rules() []split.Uneven {
	return []split.Uneven{
		stores(), uneven(1, 8, 30, 4, 2), uneven(10, 40, 50, 3, 20), uneven(2, 6, 9, 0, 20), uneven(2, 6, 9, 2, 1), uneven(1, 2, 3, 2, 1),
		uneven(5, 5, 5, 3, 3), uneven(1, 1, 1, 0, 0), uneven(1, 1, 4096, 20, 20), uneven(4096, 4096, 4096, 20, 20), uneven(1, 64, 200, 6, 6),
	}
}

// wrongs tells cutters of rules that are not valid.
func wrongs() []split.Uneven {
	return []split.Uneven{
		{}, uneven(0, 2, 3, 1, 1), uneven(-1, 2, 3, 1, 1), uneven(3, 2, 4, 1, 1), uneven(1, 5, 4, 1, 1), uneven(1, 2, 4097, 1, 1),
		uneven(1, 2, 3, 21, 1), uneven(1, 2, 3, 1, 21), uneven(1, 2, 3, -1, 1), uneven(1, 2, 3, 1, -1), uneven(math.MinInt, 2, math.MaxInt, 1, 1),
	}
}

// lines is a cutter of another kind: a piece ends behind each line feed.
type lines struct{}

func (c lines) Next(s string) int {
	if k := strings.IndexByte(s, '\n'); k >= 0 {
		return k + 1
	}
	return len(s)
}

func (c lines) Cut(l ...string) []api.Span {
	var to []int
	for rest := strings.Join(l, ""); rest != ""; rest = rest[to[len(to)-1]:] {
		to = append(to, c.Next(rest))
	}
	return sample.Pieces(to...)
}

// cutters tells cutters of every kind, which cut all bytes.
func cutters() []split.Cutter {
	l := []split.Cutter{lines{}}
	for _, n := range []int{1, 2, 3, 7, 64, 65, 1200, math.MaxInt} {
		l = append(l, even(n))
	}
	for _, c := range append(rules(), wrongs()[:2]...) {
		l = append(l, c)
	}
	return l
}

// texts tells texts of no bytes, of few, of many, of those that are alike, and in lines.
func texts() []string {
	l := []string{"", "a", "\n", "ab\ncd\n\nef", sample.Each(), strings.Repeat("u", 300), strings.Repeat("\x00", 200), strings.Repeat("a line\n", 40)}
	for _, n := range []int{2, 31, 32, 33, 63, 64, 65, 127, 128, 129, 192, 500, 1000} {
		l = append(l, sample.Bytes(n))
	}
	return l
}

// wantNext asks that Next answers want.
func wantNext(t *testing.T, what string, want int, c split.Cutter, s string) {
	t.Helper()
	if got := c.Next(s); got != want {
		t.Errorf("%s: Next by %v of %d bytes %.40q: %d, not %d", what, c, len(s), s, got, want)
	}
}

// wantCut asks that Cut answers want.
func wantCut(t *testing.T, what string, want []api.Span, c split.Cutter, l ...string) {
	t.Helper()
	if got := c.Cut(l...); !slices.Equal(got, want) {
		t.Errorf("%s: Cut by %v of %d texts %.40q: %d spans %.300s, not %d: %.300s", what, c, len(l), l, len(got), fmt.Sprint(got), len(want), fmt.Sprint(want))
	}
}

// P1501: Even.

func TestP1501EvenCut(t *testing.T) {
	wantCut(t, "example of fixed", sample.Pieces(4, 1), even(4), "abcde")
	wantCut(t, "in three texts", sample.Pieces(4, 1), even(4), "abc", "", "de")
	wantCut(t, "by 1", sample.Pieces(1, 1, 1), even(1), "abc")
	wantCut(t, "by 2", sample.Pieces(2, 2), even(2), "abcd")
	wantCut(t, "just as many", sample.Pieces(5), even(5), "abcde")
	wantCut(t, "one less", sample.Pieces(4, 1), even(4), "abcde")
	wantCut(t, "one more", sample.Pieces(5), even(6), "abcde")
	wantCut(t, "blocks", sample.Pieces(64, 64, 2), even(64), sample.Bytes(130))
	wantCut(t, "bytes, not runes", sample.Pieces(2, 2, 2), even(2), "\u20ac", "\xe2\x82\xac")
}

func TestP1501EvenCutOfNoBytes(t *testing.T) {
	for _, n := range slices.Concat([]int{1, 2, 64}, sample.Below(), sample.Great()) {
		for _, l := range sample.Nothing() {
			wantCut(t, "no bytes", nil, even(n), l...)
		}
		wantCut(t, "no list", nil, even(n))
		wantNext(t, "no bytes", 0, even(n), "")
		wantNext(t, "no bytes of some", 0, even(n), sample.Bytes(9)[4:4])
	}
}

func TestP1501EvenOfNBelowOne(t *testing.T) {
	for _, n := range sample.Below() {
		for _, size := range []int{1, 2, 64, 1200} {
			b := sample.Bytes(size)
			wantCut(t, "one text", nil, even(n), b)
			wantCut(t, "texts", nil, even(n), b, "", b)
			wantNext(t, "a text", 0, even(n), b)
		}
	}
}

func TestP1501EvenOfAGreatN(t *testing.T) {
	for _, n := range sample.Great() {
		for _, size := range []int{1, 2, 64, 1200, 1 << 20} {
			b := sample.Bytes(size)
			wantCut(t, "one text", sample.Pieces(size), even(n), b)
			wantCut(t, "two texts", sample.Pieces(size), even(n), b[:size/2], b[size/2:])
			wantNext(t, "a text", size, even(n), b)
		}
	}
}

func TestP1501EvenNext(t *testing.T) {
	for _, n := range []int{1, 2, 3, 63, 64, 65, 1200} {
		wantNext(t, "no bytes", 0, even(n), "")
		wantNext(t, "one byte", 1, even(n), "a")
		wantNext(t, "just as many", n, even(n), sample.Bytes(n))
		wantNext(t, "one more", n, even(n), sample.Bytes(n+1))
		wantNext(t, "one less", n-1, even(n), sample.Bytes(n-1))
		wantNext(t, "twice as many", n, even(n), sample.Bytes(2*n))
		wantNext(t, "many more", n, even(n), sample.Bytes(5000))
	}
}

func TestP1501EvenOfEachLength(t *testing.T) {
	for size := range 70 {
		b := sample.Bytes(size)
		for n := 1; n < 75; n++ {
			want := fixed.Cut(n, b)
			wantCut(t, "each length", want, even(n), b)
			wantCut(t, "each length, in two", want, even(n), b[:size/3], b[size/3:])
			wantNext(t, "each length", min(n, size), even(n), b)
		}
	}
}

func TestP1501EvenCutOfTheSameBytesInSeveral(t *testing.T) {
	for _, size := range []int{0, 1, 2, 3, 7, 12} {
		b := sample.Bytes(size)
		for n := 1; n < size+3; n++ {
			want := fixed.Cut(n, b)
			for _, l := range sample.Cuts(b) {
				wantCut(t, "two or three texts", want, even(n), l...)
			}
			wantCut(t, "byte by byte", want, even(n), sample.Single(b)...)
			wantCut(t, "between empty ones", want, even(n), "", "", b, "", "")
		}
	}
}

// P1501: Uneven.

func TestP1501Uneven(t *testing.T) {
	s := sample.Bytes(1000)
	want := sample.Pieces(52, 128, 70, 66, 45, 128, 51, 113, 91, 61, 82, 75, 38)
	wantCut(t, "1,000 bytes", want, stores(), s)
	wantCut(t, "1,000 bytes, in three texts", want, stores(), s[:333], "", s[333:])
	for _, x := range want {
		wantNext(t, "from a cut on", x.To-x.From, stores(), s[x.From:])
	}
	wantNext(t, "32 bytes", 32, stores(), s[:32])
	wantNext(t, "a byte", 1, stores(), "a")
	wantNext(t, "alike", 128, stores(), strings.Repeat("a", 300))
	wantNext(t, "alike, behind the place Min", 33, stores(), strings.Repeat("u", 300))
	small := uneven(1, 8, 30, 4, 2)
	wantCut(t, "small pieces", sample.Pieces(10, 2, 3, 3, 15, 10, 10, 9, 9, 2, 12, 10, 5), small, sample.Bytes(100))
	wantNext(t, "small pieces", 10, small, sample.Bytes(100))
}

func TestP1501UnevenOfNoBytes(t *testing.T) {
	for _, c := range slices.Concat(rules(), wrongs()) {
		for _, l := range sample.Nothing() {
			wantCut(t, "no bytes", nil, c, l...)
		}
		wantCut(t, "no list", nil, c)
		wantNext(t, "no bytes", 0, c, "")
	}
}

func TestP1501UnevenIsItsRule(t *testing.T) {
	for _, c := range slices.Concat(rules(), wrongs()) {
		for _, s := range texts() {
			want := c.Rule.Cut(s)
			wantCut(t, "one text", want, c, s)
			wantCut(t, "in three", want, c, s[:len(s)/3], s[len(s)/3:len(s)/2], s[len(s)/2:])
			wantCut(t, "byte by byte", want, c, sample.Single(s)...)
			wantCut(t, "between empty ones", want, c, "", s, "", "")
			wantNext(t, "a text", c.Rule.First(s), c, s)
		}
		if c.Valid() != c.Rule.Valid() || c.First("ab") != c.Rule.First("ab") {
			t.Errorf("%v: what is promoted is not its rule's", c)
		}
	}
}

func TestP1501UnevenOfAWrongRule(t *testing.T) {
	for _, c := range wrongs() {
		for _, n := range []int{1, 2, 33, 129, 4097} {
			wantCut(t, "all of it", sample.Pieces(n), c, sample.Bytes(n))
			wantNext(t, "all of it", n, c, sample.Bytes(n))
		}
	}
}

func TestP1501NextIsTheFirstOfCut(t *testing.T) {
	for _, c := range append(cutters(), even(0), even(-5), wrongs()[5]) {
		for _, s := range texts() {
			l := append(c.Cut(s), span(0, 0)) // of no pieces 0
			wantNext(t, "the first of Cut", l[0].To, c, s)
		}
	}
}

// P1501: Of.

// wantOf asks that Of answers want.
func wantOf(t *testing.T, gen int, want split.Cutter, e api.Errno) {
	t.Helper()
	if got, f := split.Of(gen); got != want || f != e {
		t.Errorf("Of(%d): %#v, %d, not %#v, %d", gen, got, f, want, e)
	}
}

func TestP1501Of(t *testing.T) {
	for range 2 {
		wantOf(t, 1, even(64), api.OK)
		wantOf(t, 2, stores(), api.OK)
		wantOf(t, 3, stores(), api.OK)
		wantOf(t, api.G1, split.Even{N: api.Block}, api.OK)
		wantOf(t, api.G2, split.Uneven{Rule: cdc.Default()}, api.OK)
		wantOf(t, api.G3, split.Uneven{Rule: cdc.Default()}, api.OK)
	}
	for _, n := range slices.Concat(sample.Extremes(), []int{0, -1, -2, -3, 4, 5, 6, 7, 64, 257, 258, 1<<32 + 1, 1<<32 + 2, -1<<32 + 3}) {
		wantOf(t, n, nil, api.ErrArg)
	}
}

func TestP1501OfCuts(t *testing.T) {
	s := sample.Bytes(1000)
	for gen, want := range map[int][]int{1: {64, 64, 64, 64, 64, 64, 64, 64, 64, 64, 64, 64, 64, 64, 64, 40}, 2: {52, 128, 70, 66, 45, 128, 51, 113, 91, 61, 82, 75, 38}, 3: {52, 128, 70, 66, 45, 128, 51, 113, 91, 61, 82, 75, 38}} {
		c, _ := split.Of(gen)
		wantCut(t, fmt.Sprintf("form %d", gen), sample.Pieces(want...), c, s)
		wantNext(t, fmt.Sprintf("form %d", gen), want[0], c, s)
	}
}

// P1502: Again.

// watched is a cutter that is watched: what was handed to Next.
type watched struct {
	split.Cutter
	rests []string
}

func (w *watched) Next(s string) int {
	w.rests = append(w.rests, s)
	return w.Cutter.Next(s)
}

// went tells whether Next was handed what is left of s from piece to piece.
func (w *watched) went(s string, l []api.Span) bool {
	if len(w.rests) == 0 {
		return true
	}
	k := slices.IndexFunc(l, func(x api.Span) bool { return x.From == len(s)-len(w.rests[0]) })
	if k < 0 || len(w.rests) > len(l)-k {
		return false
	}
	for j, rest := range w.rests {
		if rest != s[l[k+j].From:] {
			return false
		}
	}
	return true
}

// looked tells how many pieces are to be looked for, at least and at most: within a piece in which nothing has changed none would do, and whether the beginning, where nothing ends, is a cut that both have, the words leave open.
func looked(old, is []api.Span, from, to, grown int) (int, int) {
	stay, n := 0, 0
	for k, x := range old {
		if x.To <= from && (k < len(old)-1 || from == to && grown == 0) {
			stay = x.To
		}
	}
	for _, x := range is {
		if x.From >= to && x.From >= stay && slices.ContainsFunc(old, func(y api.Span) bool { return y.From == x.From-grown }) {
			break
		}
		if x.From >= stay {
			n++
		}
	}
	if to == 0 && n == 0 {
		return 0, min(1, len(is))
	}
	if from == to && grown == 0 {
		return 0, n
	}
	return n, n
}

// wantAgain asks that Again answers want and n.
func wantAgain(t *testing.T, what string, want []api.Span, n int, c split.Cutter, old []api.Span, s string, from, to, grown int) {
	t.Helper()
	if got, m := split.Again(c, old, s, from, to, grown); !slices.Equal(got, want) || m != n {
		t.Errorf("%s: Again(%v, %d spans %.200s, %d bytes, %d, %d, %d): %d, %d spans %.200s, not %d, %d: %.200s", what, c, len(old), fmt.Sprint(old), len(s), from, to, grown, m, len(got), fmt.Sprint(got), n, len(want), fmt.Sprint(want))
	}
}

// wantAll asks that Again answers all cuts of s, and how many these are.
func wantAll(t *testing.T, what string, c split.Cutter, old []api.Span, s string, from, to, grown int) {
	t.Helper()
	want := c.Cut(s)
	wantAgain(t, what, want, len(want), c, old, s, from, to, grown)
}

// edited asks for the cuts of a text of which the bytes from from on, below to, are now others; it tells them, and how many were looked for.
func edited(t *testing.T, what string, c split.Cutter, old []api.Span, was string, from, to int, others string) ([]api.Span, int) {
	t.Helper()
	s, grown := was[:from]+others+was[to:], len(others)-(to-from)
	want, had, w := c.Cut(s), slices.Clone(old), &watched{Cutter: c}
	got, n := split.Again(w, old, s, from, from+len(others), grown)
	least, most := looked(old, want, from, from+len(others), grown)
	if !slices.Equal(got, want) || n < least || n > most || n != len(w.rests) || !w.went(s, got) || !slices.Equal(old, had) {
		t.Errorf("%s: by %v of %d bytes %d to %d are now %d others: %d, %d spans %.200s, not %d, %d: %.200s; asked for %d", what, c, len(was), from, to, len(others), n, len(got), fmt.Sprint(got), most, len(want), fmt.Sprint(want), len(w.rests))
	}
	return got, n
}

// wantEdit asks that behind an edit the pieces have such lengths, and n were looked for.
func wantEdit(t *testing.T, what string, want []int, n int, c split.Cutter, was string, from, to int, others string) {
	t.Helper()
	s := was[:from] + others + was[to:]
	wantAgain(t, what, sample.Pieces(want...), n, c, c.Cut(was), s, from, from+len(others), len(s)-len(was))
}

func TestP1502NothingChanged(t *testing.T) {
	c, s := stores(), sample.Bytes(1000)
	old := sample.Pieces(52, 128, 70, 66, 45, 128, 51, 113, 91, 61, 82, 75, 38)
	wantAgain(t, "example: the end", old, 0, c, old, s, 1000, 1000, 0)
	wantAgain(t, "a cut", old, 0, c, old, s, 52, 52, 0)
	wantAgain(t, "another cut", old, 0, c, old, s, 540, 540, 0)
	wantAgain(t, "the last cut", old, 0, c, old, s, 962, 962, 0)
	wantAgain(t, "no bytes", nil, 0, c, nil, "", 0, 0, 0)
	wantAgain(t, "no bytes, an empty list", nil, 0, c, []api.Span{}, "", 0, 0, 0)
	wantAgain(t, "no bytes, by 4", nil, 0, even(4), nil, "", 0, 0, 0)
	wantAgain(t, "even, the end", sample.Pieces(4, 4, 2), 0, even(4), sample.Pieces(4, 4, 2), "abcdefghij", 10, 10, 0)
	wantAgain(t, "even, the end of a whole piece", sample.Pieces(4, 4), 0, even(4), sample.Pieces(4, 4), "abcdefgh", 8, 8, 0)
}

func TestP1502NothingChangedAtEachPlace(t *testing.T) {
	for _, c := range cutters() {
		for _, s := range texts() {
			old := c.Cut(s)
			for at := range len(s) + 1 {
				l, n := edited(t, "nothing", c, old, s, at, at, "")
				cut := slices.ContainsFunc(old, func(x api.Span) bool { return x.To == at })
				if !slices.Equal(l, old) || n > 1 || cut && n != 0 {
					t.Errorf("by %v of %d bytes nothing is changed, at %d: %d", c, len(s), at, n)
				}
			}
		}
	}
}

func TestP1502NoBytesChangedForOthers(t *testing.T) {
	c, s := stores(), sample.Bytes(1000)
	old := c.Cut(s)
	wantAgain(t, "within a piece", old, 1, c, old, s, 255, 256, 0)
	wantAgain(t, "a piece", old, 1, c, old, s, 250, 316, 0)
	wantAgain(t, "a piece and a byte", old, 2, c, old, s, 250, 317, 0)
	wantAgain(t, "a piece and the byte ahead", old, 2, c, old, s, 249, 316, 0)
	wantAgain(t, "a piece, but for a byte", old, 1, c, old, s, 250, 315, 0)
	wantAgain(t, "over three", old, 3, c, old, s, 200, 350, 0)
	wantAgain(t, "the last byte", old, 1, c, old, s, 999, 1000, 0)
	wantAgain(t, "the last piece", old, 1, c, old, s, 962, 1000, 0)
	wantAgain(t, "the first byte", old, 1, c, old, s, 0, 1, 0)
	wantAgain(t, "the first piece", old, 1, c, old, s, 0, 52, 0)
	wantAgain(t, "all", old, 13, c, old, s, 0, 1000, 0)
}

func TestP1502AgainOfUneven(t *testing.T) {
	s := sample.Bytes(1000)
	edit := func(what string, n, from, to int, others string, want ...int) {
		t.Helper()
		wantEdit(t, what, want, n, stores(), s, from, to, others)
	}
	edit("another byte", 1, 255, 256, "?", 52, 128, 70, 66, 45, 128, 51, 113, 91, 61, 82, 75, 38)
	edit("one less at the beginning", 3, 0, 1, "", 94, 86, 69, 66, 45, 128, 51, 113, 91, 61, 82, 75, 38)
	edit("one more at the beginning", 1, 0, 0, "?", 53, 128, 70, 66, 45, 128, 51, 113, 91, 61, 82, 75, 38)
	edit("a piece more at the beginning", 1, 0, 0, sample.Bytes(1000)[:52], 52, 52, 128, 70, 66, 45, 128, 51, 113, 91, 61, 82, 75, 38)
	edit("within the first", 3, 5, 5, "xyz", 98, 86, 69, 66, 45, 128, 51, 113, 91, 61, 82, 75, 38)
	edit("one more at a cut", 1, 250, 250, "?", 52, 128, 70, 67, 45, 128, 51, 113, 91, 61, 82, 75, 38)
	edit("three more at a cut", 1, 540, 540, "uuu", 52, 128, 70, 66, 45, 128, 51, 116, 91, 61, 82, 75, 38)
	edit("the byte ahead of a cut", 2, 539, 540, "", 52, 128, 70, 66, 45, 128, 71, 92, 91, 61, 82, 75, 38)
	edit("a piece of bytes that are alike at a cut", 1, 316, 316, strings.Repeat("\x00", 128), 52, 128, 70, 66, 128, 45, 128, 51, 113, 91, 61, 82, 75, 38)
	edit("a piece less: at once", 0, 250, 316, "", 52, 128, 70, 45, 128, 51, 113, 91, 61, 82, 75, 38)
	edit("two pieces less: at once", 0, 180, 316, "", 52, 128, 45, 128, 51, 113, 91, 61, 82, 75, 38)
	edit("the last piece less", 0, 962, 1000, "", 52, 128, 70, 66, 45, 128, 51, 113, 91, 61, 82, 75)
	edit("many more within a piece: later", 6, 300, 300, sample.Bytes(70), 52, 128, 70, 72, 91, 60, 128, 45, 77, 91, 61, 82, 75, 38)
	edit("many less over two: later", 4, 300, 350, "", 52, 128, 70, 103, 128, 45, 77, 91, 61, 82, 75, 38)
	edit("one for many pieces", 2, 100, 700, "u", 52, 66, 88, 82, 75, 38)
	edit("one less at the end", 1, 999, 1000, "", 52, 128, 70, 66, 45, 128, 51, 113, 91, 61, 82, 75, 37)
	edit("one more at the end", 1, 1000, 1000, "?", 52, 128, 70, 66, 45, 128, 51, 113, 91, 61, 82, 75, 39)
	edit("many more at the end", 4, 1000, 1000, sample.Bytes(200), 52, 128, 70, 66, 45, 128, 51, 113, 91, 61, 82, 75, 44, 120, 49, 25)
	edit("all others: not at all", 5, 0, 1000, sample.Bytes(300), 67, 37, 63, 51, 82)
	edit("all taken away", 0, 0, 1000, "")
}

func TestP1502AgainOfEven(t *testing.T) {
	edit := func(what string, n, from, to int, others string, want ...int) {
		t.Helper()
		wantEdit(t, what, want, n, even(4), "abcdefghij", from, to, others)
	}
	edit("others, as many", 1, 5, 6, "?", 4, 4, 2)
	edit("a piece of others", 1, 4, 8, "wxyz", 4, 4, 2)
	edit("others on both sides of a cut", 2, 3, 5, "??", 4, 4, 2)
	edit("a piece more", 2, 5, 5, "wxyz", 4, 4, 4, 2)
	edit("a piece more at the beginning", 1, 0, 0, "wxyz", 4, 4, 4, 2)
	edit("a piece more, for a byte", 2, 7, 8, "xyzuv", 4, 4, 4, 2)
	edit("a piece less: at once", 0, 4, 8, "", 4, 2)
	edit("a piece's length less, around a cut", 1, 3, 7, "", 4, 2)
	edit("as much, within one on", 1, 6, 10, "", 4, 2)
	edit("two more: not at all", 2, 5, 5, "xy", 4, 4, 4)
	edit("one less at the beginning: not at all", 3, 0, 1, "", 4, 4, 1)
	edit("one more at the beginning: not at all", 3, 0, 0, "x", 4, 4, 3)
	edit("the last piece less", 0, 8, 10, "", 4, 4)
	edit("the last byte less", 1, 9, 10, "", 4, 4, 1)
	edit("one more at the end", 1, 10, 10, "x", 4, 4, 3)
	edit("more at the end", 2, 10, 10, "xyz", 4, 4, 4, 1)
	edit("many more at the end", 2, 10, 10, "xyzuv", 4, 4, 4, 3)
	edit("all taken away", 0, 0, 10, "")
	edit("all others, fewer", 2, 0, 10, "xyzuv", 4, 1)
	edit("all others, as many", 3, 0, 10, "ABCDEFGHIJ", 4, 4, 2)
	wantEdit(t, "bytes where there were none", []int{4, 1}, 2, even(4), "", 0, 0, "abcde")
	wantEdit(t, "behind a whole last piece", []int{4, 4, 1}, 2, even(4), "abcdefgh", 8, 8, "i")
	wantEdit(t, "behind the only piece", []int{4, 4}, 2, even(4), "abcd", 4, 4, "efgh")
}

func TestP1502AgainOfLines(t *testing.T) {
	edit := func(what string, n, from, to int, others string, want ...int) {
		t.Helper()
		wantEdit(t, what, want, n, lines{}, "ab\ncde\n\nf", from, to, others)
	}
	edit("within a line", 1, 4, 5, "xyz", 3, 6, 1, 1)
	edit("a line more", 1, 3, 3, "z\n", 3, 2, 4, 1, 1)
	edit("a line less", 0, 3, 7, "", 3, 1, 1)
	edit("two lines in one", 1, 6, 7, "", 3, 4, 1)
	edit("one line in two", 2, 4, 4, "\n", 3, 2, 3, 1, 1)
	edit("the last line goes on", 1, 9, 9, "g", 3, 4, 1, 2)
	edit("the last line ends", 2, 9, 9, "\ng", 3, 4, 1, 2, 1)
}

func TestP1502EachEditOfFewBytes(t *testing.T) {
	for _, c := range []split.Cutter{even(1), even(2), even(3), even(5), lines{}, uneven(1, 2, 3, 2, 1), uneven(1, 1, 1, 0, 0), uneven(2, 3, 5, 1, 1), uneven(2, 6, 9, 0, 20), split.Uneven{}} {
		for size := range 10 {
			for _, was := range []string{sample.Bytes(size), "a\nbcd\n\nefg"[:size], strings.Repeat("u", size)} {
				old := c.Cut(was)
				for from := range size + 1 {
					for to := from; to <= size; to++ {
						for n := range 5 {
							edited(t, "any bytes", c, old, was, from, to, sample.Bytes(n + 3)[:n])
							edited(t, "alike", c, old, was, from, to, "uuuuu"[:n])
							edited(t, "line feeds", c, old, was, from, to, "\n\nx\n"[:n])
						}
						edited(t, "the same", c, old, was, from, to, was[from:to])
					}
				}
			}
		}
	}
}

func TestP1502EachEditOfSomeBytes(t *testing.T) {
	was := sample.Bytes(60)
	for _, c := range []split.Cutter{even(7), even(64), uneven(1, 8, 30, 4, 2), uneven(2, 6, 9, 2, 1), uneven(1, 2, 3, 2, 1), uneven(4, 6, 20, 2, 1)} {
		old := c.Cut(was)
		for from := range len(was) + 1 {
			for to := from; to <= len(was); to++ {
				for _, others := range []string{"", "?", "xy", was[from:to], sample.Bytes(7), sample.Bytes(25)} {
					edited(t, "some bytes", c, old, was, from, to, others)
				}
			}
		}
	}
}

// places tells places to edit at: the ends, near cuts, and some more.
func places(size int, old []api.Span) []int {
	l := []int{0, 1, size / 3, size - 1, size}
	for k, x := range old {
		if k < 3 || k == len(old)/2 || k > len(old)-3 {
			l = append(l, x.To-2, x.To-1, x.To, x.To+1, x.To+33, (x.From+x.To)/2)
		}
	}
	l = slices.DeleteFunc(l, func(at int) bool { return at < 0 || at > size })
	slices.Sort(l)
	return slices.Compact(l)
}

func TestP1502EditsOfManyTexts(t *testing.T) {
	more := []string{"", "?", "\n", "uuuuu", sample.Bytes(64), sample.Bytes(129), strings.Repeat("u", 200)}
	for _, c := range cutters() {
		for _, was := range texts() {
			old := c.Cut(was)
			l := places(len(was), old)
			for k, from := range l {
				for j := k; j < len(l); j += 1 + (j-k)/3 {
					for _, others := range append(more, was[from:l[j]]) {
						edited(t, "a text", c, old, was, from, l[j], others)
					}
				}
			}
		}
	}
}

func TestP1502EditsToldWiderThanTheyAre(t *testing.T) {
	was := sample.Bytes(700)
	for _, c := range []split.Cutter{even(64), even(7), stores(), uneven(1, 8, 30, 4, 2)} {
		old := c.Cut(was)
		for at := 0; at < len(was); at += 23 {
			to := min(at+9, len(was))
			for _, by := range []int{0, 1, 30, 64, 200, 700} {
				a, b := max(0, at-by), min(len(was), to+by)
				edited(t, "more", c, old, was, a, b, was[a:at]+sample.Bytes(13)+was[to:b])
				edited(t, "fewer", c, old, was, a, b, was[a:at]+was[to:b])
				edited(t, "ahead alone", c, old, was, a, to, was[a:at]+"?")
				edited(t, "behind alone", c, old, was, at, b, "?"+was[to:b])
			}
		}
	}
}

func TestP1502ChangedAgainAndAgain(t *testing.T) {
	for k, c := range cutters() {
		s := sample.Bytes(900)
		l, x := c.Cut(s), uint32(k)
		next := func(below int) int {
			x = x*1664525 + 1013904223
			return int(x>>8) % below
		}
		for step := range 150 {
			from := next(len(s) + 1)
			to := min(len(s), from+next(1+next(120)))
			others := sample.Bytes(500 + step)[:next(1+next(120))]
			if step%40 == 39 {
				from, to = 0, len(s)
			}
			l, _ = edited(t, "on and on", c, l, s, from, to, others)
			s = s[:from] + others + s[to:]
		}
	}
}

func TestP1502ChangedTwice(t *testing.T) {
	s := sample.Bytes(1000)
	for _, c := range []split.Cutter{even(64), stores()} {
		old := c.Cut(s)
		for at := 0; at <= 960; at += 31 {
			l, _ := edited(t, "once", c, old, s, at, at+20, "xyz")
			now := s[:at] + "xyz" + s[at+20:]
			back, _ := edited(t, "back again", c, l, now, at, at+3, s[at:at+20])
			if !slices.Equal(back, old) {
				t.Errorf("by %v: changed at %d, and back: %v, not %v", c, at, back, old)
			}
			edited(t, "elsewhere", c, l, now, 983-at, 983-at, "uu")
		}
	}
}

// P1502: what may not be.

// astray is what is handed in beside a cutter and a text.
type astray struct {
	what            string
	old             []api.Span
	from, to, grown int
}

// changed tells a text into which at 540 three bytes were put, and the cuts of what it was.
func changed() (string, []api.Span) {
	was := sample.Bytes(1000)
	return was[:540] + "uuu" + was[540:], stores().Cut(was)
}

// notWhole tells lists that are not Whole of the 1,000 bytes of old; now is the cuts of others.
func notWhole(old, now []api.Span) map[string][]api.Span {
	last := len(old) - 1
	l := map[string][]api.Span{
		"nil": nil, "none": {}, "one less at the front": old[1:], "one less at the end": old[:last],
		"one more behind": append(slices.Clone(old), span(1000, 1003)), "another length": sample.Pieces(64, 64, 64), "of the text as it is": now,
		"from behind 0": append([]api.Span{span(1, old[0].To)}, old[1:]...), "from below 0": append([]api.Span{span(-1, old[0].To)}, old[1:]...),
		"one ahead of 0": append([]api.Span{span(-5, 0)}, old...), "too long": append(slices.Clone(old[:last]), span(old[last].From, 1001)),
		"too short": append(slices.Clone(old[:last]), span(old[last].From, 999)), "on to the greatest int": append(slices.Clone(old[:last]), span(old[last].From, math.MaxInt)),
		"far off": {span(math.MinInt, math.MaxInt)}, "backwards": reversed(old), "all twice": slices.Concat(old, old),
	}
	for k, x := range old {
		l[fmt.Sprint("an empty one ahead of ", k)] = slices.Insert(slices.Clone(old), k, span(x.From, x.From))
		l[fmt.Sprint("twice ", k)] = slices.Insert(slices.Clone(old), k, x)
		l[fmt.Sprint("without ", k)] = slices.Delete(slices.Clone(old), k, k+1)
		l[fmt.Sprint("a hole ahead of ", k)] = slices.Replace(slices.Clone(old), k, k+1, span(x.From+1, x.To))
		l[fmt.Sprint("a hole behind ", k)] = slices.Replace(slices.Clone(old), k, k+1, span(x.From, x.To-1))
		l[fmt.Sprint("overlapping at ", k)] = slices.Replace(slices.Clone(old), k, k+1, span(x.From, x.To+1))
		l[fmt.Sprint("going back at ", k)] = slices.Replace(slices.Clone(old), k, k+1, span(x.To, x.From))
	}
	l["an empty one at the end"] = append(slices.Clone(old), span(1000, 1000))
	return l
}

// reversed tells spans, the last one first.
func reversed(l []api.Span) []api.Span {
	l = slices.Clone(l)
	slices.Reverse(l)
	return l
}

// wrongPlaces tells what of from, to, grown may not be, where old is as it should be.
func wrongPlaces(old []api.Span) []astray {
	l := []astray{
		{"from -1", old, -1, 543, 3}, {"from far below", old, -1000, 543, 3}, {"to -1", old, -2, -1, 3}, {"to 0 less grown", old, 0, 0, 3}, {"to less grown below 0", old, 0, 2, 3},
		{"from above to", old, 544, 543, 3}, {"from above to, at the end", old, 1003, 1002, 3}, {"to less grown below from", old, 541, 543, 3}, {"from as to", old, 543, 543, 3}, {"to less grown below from, another to", old, 540, 542, 3},
		{"to above the length", old, 540, 1004, 3}, {"to far above", old, 540, 10000, 3}, {"both above", old, 1004, 1004, 3}, {"from above, to too", old, 1001, 1004, 3},
		{"grown 2", old, 540, 543, 2}, {"grown 4", old, 540, 543, 4}, {"grown 0", old, 540, 543, 0}, {"grown -3", old, 540, 543, -3}, {"grown as the length", old, 540, 543, 1003}, {"grown more", old, 540, 543, 1004},
	}
	for _, n := range slices.Concat(sample.Extremes(), []int{1<<32 + 540, -1<<32 + 540, 1 << 32, -1 << 32}) {
		l = append(l, astray{"from", old, n, 543, 3}, astray{"to", old, 540, n, 3}, astray{"grown", old, 540, 543, n}, astray{"from and to", old, n, n, 3})
		for _, m := range sample.Extremes() {
			l = append(l, astray{"from, to", old, n, m, 3}, astray{"from, grown", old, n, 543, m}, astray{"to, grown", old, 540, n, m}, astray{"all", old, n, n, m}, astray{"all", old, n, m, m})
		}
	}
	return l
}

func TestP1502WhatMayJustBe(t *testing.T) {
	s, old := changed()
	all := stores().Cut(s)
	for n, l := range map[int][]astray{
		1:  {{"just so", old, 540, 543, 3}, {"to behind, within the piece", old, 540, 656, 3}},
		2:  {{"to behind", old, 540, 700, 3}, {"from ahead", old, 539, 543, 3}},
		6:  {{"from a cut ahead", old, 180, 543, 3}, {"to the end", old, 540, 1003, 3}},
		8:  {{"from 0", old, 0, 543, 3}},
		13: {{"all of it", old, 0, 1003, 3}},
	} {
		for _, x := range l {
			wantAgain(t, x.what, all, n, stores(), x.old, s, x.from, x.to, x.grown)
		}
	}
}

func TestP1502OldThatIsNotWhole(t *testing.T) {
	s, old := changed()
	for what, l := range notWhole(old, stores().Cut(s)) {
		wantAll(t, what, stores(), l, s, 540, 543, 3)
		wantAll(t, what+", by another cutter", even(64), l, s, 540, 543, 3)
		wantAll(t, what+", to the end", stores(), l, s, 540, 1003, 3)
		wantAll(t, what+", all", stores(), l, s, 0, 1003, 3)
	}
	wantAll(t, "some of no bytes", stores(), old, "", 0, 0, 0)
	wantAll(t, "an empty one of no bytes", even(4), []api.Span{span(0, 0)}, "", 0, 0, 0)
	wantAll(t, "none of some", even(4), nil, "abcde", 5, 5, 0)
	wantAll(t, "a hole, nothing changed", even(4), []api.Span{span(0, 4), span(5, 8)}, "abcdefgh", 8, 8, 0)
	wantAll(t, "too short, nothing changed", even(4), sample.Pieces(4, 3), "abcdefgh", 8, 8, 0)
	wantAll(t, "too long, nothing changed", even(4), sample.Pieces(4, 5), "abcdefgh", 8, 8, 0)
	wantAll(t, "empty ones, nothing changed", even(4), sample.Pieces(0, 4, 0, 4, 0), "abcdefgh", 8, 8, 0)
}

func TestP1502PlacesThatMayNotBe(t *testing.T) {
	s, old := changed()
	for _, x := range wrongPlaces(old) {
		what := fmt.Sprintf("%s: %d, %d, %d", x.what, x.from, x.to, x.grown)
		wantAll(t, what, stores(), x.old, s, x.from, x.to, x.grown)
		wantAll(t, what+", by another cutter", even(50), x.old, s, x.from, x.to, x.grown)
	}
}

func TestP1502NothingChangedAtPlacesThatAreNot(t *testing.T) {
	s := sample.Bytes(300)
	for _, c := range []split.Cutter{even(64), stores()} {
		old := c.Cut(s)
		for _, at := range slices.Concat(sample.Extremes(), []int{-1, -300, 301, 302, 1 << 32, -1 << 32}) {
			wantAll(t, "no place", c, old, s, at, at, 0)
			wantAll(t, "no place, from", c, old, s, at, 300, 0)
			wantAll(t, "no place, to", c, old, s, 0, at, 0)
		}
	}
}

func TestP1502AtTheEndsOfInts(t *testing.T) {
	s := sample.Bytes(300)
	one := []api.Span{span(0, math.MaxInt)}
	for _, c := range []split.Cutter{even(64), stores(), even(math.MaxInt)} {
		wantAll(t, "old of as many as can be", c, one, s, 0, 300, 300-math.MaxInt)
		wantAll(t, "in the midst, the only piece", c, one, s, 150, 300, 300-math.MaxInt)
		for _, grown := range []int{math.MinInt, math.MinInt + 1, math.MinInt + 300, 299 - math.MaxInt, 301 - math.MaxInt, math.MaxInt, math.MaxInt - 1} {
			wantAll(t, "of a length that is none", c, one, s, 0, 300, grown)
			wantAll(t, "no spans", c, nil, s, 0, 300, grown)
			wantAll(t, "some", c, c.Cut(s), s, 64, 300, grown)
		}
	}
	two := []api.Span{span(0, 64), span(64, math.MaxInt)}
	wantAgain(t, "a piece stays", sample.Pieces(64, 64, 64, 64, 44), 4, even(64), two, s, 64, 300, 300-math.MaxInt)
	three := []api.Span{span(0, 64), span(64, math.MaxInt-44), span(math.MaxInt-44, math.MaxInt)}
	wantAgain(t, "pieces on both sides stay", sample.Pieces(64, 64, 64, 64, 44), 3, even(64), three, s, 64, 256, 300-math.MaxInt)
	wantAgain(t, "no bytes are left", nil, 0, even(64), one, "", 0, 0, -math.MaxInt)
}

// stray is a cutter whose Next goes astray behind so many that are good.
type stray struct {
	split.Cutter
	good  int
	tells func(rest int) int
}

func (c *stray) Next(s string) int {
	c.good--
	if c.good < 0 {
		return c.tells(len(s))
	}
	return c.Cutter.Next(s)
}

// tales tells what a Next may tell that is below 1 or beyond the rest.
func tales() map[string]func(rest int) int {
	return map[string]func(rest int) int{
		"0":                  func(int) int { return 0 },
		"-1":                 func(int) int { return -1 },
		"the rest, below 0":  func(rest int) int { return -rest },
		"the least int":      func(int) int { return math.MinInt },
		"one more than rest": func(rest int) int { return rest + 1 },
		"many more":          func(rest int) int { return rest + 1000 },
		"the greatest int":   func(int) int { return math.MaxInt },
		"of 32 bits nothing": func(int) int { return 1 << 32 },
	}
}

func TestP1502ACutterThatGoesAstray(t *testing.T) {
	was := sample.Bytes(700)
	for _, c := range []split.Cutter{even(50), stores()} {
		old := c.Cut(was)
		for _, at := range []int{0, 30, old[1].To, old[2].To - 1, 400, 690, 700} {
			s := was[:at] + "xyz" + was[at:]
			all := c.Cut(s)
			n, _ := looked(old, all, at, at+3, 3)
			for what, tells := range tales() {
				for good := range n {
					wantAgain(t, fmt.Sprintf("%s behind %d good ones of %d", what, good, n), all, len(all), &stray{c, good, tells}, old, s, at, at+3, 3)
				}
				wantAgain(t, what+", but not asked so often", all, n, &stray{c, n, tells}, old, s, at, at+3, 3)
			}
		}
		for what, tells := range tales() {
			wantAgain(t, what+", but not asked at all", old, 0, &stray{c, 0, tells}, old, was, 700, 700, 0)
			wantAgain(t, what+", but not asked, of no bytes", nil, 0, &stray{c, 0, tells}, old, "", 0, 0, -700)
		}
	}
}

func TestP1502ACutterOfAllThatIsLeft(t *testing.T) {
	for _, c := range []split.Cutter{even(math.MaxInt), split.Uneven{}} {
		for _, s := range texts() {
			edited(t, "all that is left", c, c.Cut(s), s, len(s)/2, len(s)/2, "xyz")
		}
	}
}

func TestP1502EvenOfNBelowOne(t *testing.T) {
	for _, n := range sample.Below() {
		wantAgain(t, "no pieces, and none looked for", nil, 0, even(n), nil, "abcde", 0, 5, 5)
		wantAgain(t, "old that is not Whole", nil, 0, even(n), nil, "abcde", 2, 3, 0)
		wantAgain(t, "old that is another cutter's", nil, 0, even(n), sample.Pieces(4, 1), "abxcde", 2, 3, 1)
		wantAgain(t, "old that stays", sample.Pieces(4, 1), 0, even(n), sample.Pieces(4, 1), "abcde", 5, 5, 0)
		wantAgain(t, "no bytes", nil, 0, even(n), nil, "", 0, 0, 0)
	}
}

func TestP1502NoCutter(t *testing.T) {
	s, old := changed()
	wantAgain(t, "an edit", nil, 0, nil, old, s, 540, 543, 3)
	wantAgain(t, "nothing changed", nil, 0, nil, old, s[3:], 1000, 1000, 0)
	wantAgain(t, "nothing changed at the beginning", nil, 0, nil, old, s[3:], 0, 0, 0)
	wantAgain(t, "what may not be", nil, 0, nil, nil, s, -1, 543, 3)
	wantAgain(t, "no bytes", nil, 0, nil, nil, "", 0, 0, 0)
}

// panics is a cutter that panics.
type panics struct{ split.Cutter }

func TestP1502ACutterThatPanics(t *testing.T) {
	s, old := changed()
	for _, c := range []split.Cutter{panics{}, (*panics)(nil), (*split.Even)(nil), (*split.Uneven)(nil)} {
		if l, n := split.Again(c, old, s, 540, 543, 3); l != nil || n != 0 {
			t.Errorf("%T: an edit: %v, %d", c, l, n)
		}
		if l, n := split.Again(c, nil, s, 540, 543, 3); l != nil || n != 0 {
			t.Errorf("%T: what may not be: %v, %d", c, l, n)
		}
	}
}

// P1503: an edit lets few pieces be looked for.

func TestP1503FewAreLookedForBehindAnEdit(t *testing.T) {
	s := sample.Bytes(100000)
	c := stores()
	old := c.Cut(s)
	total, edits := 0, 0
	for at := 500; at < 99000; at += 970 {
		for _, others := range []string{"", "?", "??", "xyz", strings.Repeat("u", 70)} {
			_, n := edited(t, "in the midst", c, old, s, at, at+1, others)
			if n > 40 {
				t.Errorf("at %d %d bytes for one: %d of %d were looked for", at, len(others), n, len(old))
			}
			total, edits = total+n, edits+1
		}
	}
	if total > 5*edits || len(old) < 1000 {
		t.Errorf("%d edits: %d of %d each time were looked for", edits, total, len(old))
	}
}

func TestP1503WhateverStandsBehind(t *testing.T) {
	front := sample.Bytes(3000)
	tails := []string{"", "x", sample.Bytes(100), sample.Bytes(50000), strings.Repeat("u", 9000), strings.Repeat("\x00", 20000)}
	for _, c := range []split.Cutter{stores(), uneven(1, 8, 30, 4, 2), uneven(10, 40, 50, 3, 20)} {
		for at := 0; at < 1000; at += 37 {
			for _, others := range []string{"", "?", "xyz"} {
				_, want := edited(t, "nothing behind", c, c.Cut(front), front, at, at+1, others)
				for _, tail := range tails {
					s := front + tail
					if _, n := edited(t, "a tail behind", c, c.Cut(s), s, at, at+1, others); n != want {
						t.Errorf("by %v at %d %d bytes for one, %d bytes behind: %d were looked for, not %d", c, at, len(others), len(tail), n, want)
					}
				}
			}
		}
	}
}

func TestP1503EvenWhereWhatStandsBehindStays(t *testing.T) {
	s := sample.Bytes(64 * 1000)
	c := even(64)
	old := c.Cut(s)
	for at := 0; at < len(s)-200; at += 1111 {
		for _, x := range []struct {
			to     int
			others string
			most   int
		}{{at + 1, "?", 1}, {at + 64, strings.Repeat("?", 64), 2}, {at, sample.Bytes(64), 2}, {at + 64, "", 1}, {at + 65, "?", 2}, {at + 1, sample.Bytes(129), 4}} {
			if _, n := edited(t, "as many, or whole pieces", c, old, s, at, x.to, x.others); n > x.most {
				t.Errorf("at %d to %d %d bytes: %d were looked for", at, x.to, len(x.others), n)
			}
		}
	}
}

func TestP1503EvenWhereWhatStandsBehindMoves(t *testing.T) {
	s := sample.Bytes(64 * 100)
	c := even(64)
	old := c.Cut(s)
	for at := range 100 {
		if _, n := edited(t, "one more", c, old, s, 64*at+5, 64*at+5, "x"); n != 101-at {
			t.Errorf("one more in piece %d: %d were looked for, not all from there on", at, n)
		}
		if _, n := edited(t, "one less", c, old, s, 64*at+5, 64*at+6, ""); n != 100-at {
			t.Errorf("one less in piece %d: %d were looked for, not all from there on", at, n)
		}
	}
}

// P1501, P1502: what is handed in stays, and what is answered is of its own.

func TestP1501KeepsWhatWasHandedIn(t *testing.T) {
	l := []string{sample.Bytes(40), "defg", "", sample.Bytes(300), "i"}
	had := slices.Clone(l)
	for _, c := range append(cutters(), even(0), even(-1)) {
		for n := range len(l) + 1 {
			s := strings.Join(had[:n], "")
			want := c.Cut(s)
			wantCut(t, "a list with room", want, c, l[:n]...)
			wantCut(t, "a list with room, again", want, c, l[:n]...)
			c.Next(s)
		}
		if !slices.Equal(l, had) {
			t.Fatalf("%v: what was handed in, or its room, is now %q", c, l)
		}
	}
}

func TestP1501AnswersAreTheirOwn(t *testing.T) {
	s := sample.Bytes(1000)
	for _, c := range []split.Cutter{even(64), stores()} {
		one, two := c.Cut(s[:300], s[300:]), c.Cut(s[:300], s[300:])
		want := slices.Clone(two)
		one[0], one[len(one)-1] = span(7, 7), span(9, 9)
		_ = append(one[:1], span(5, 5))
		c.Cut("abc")
		split.Again(c, two, s, 1000, 1000, 0)
		split.Of(2)
		if !slices.Equal(two, want) {
			t.Errorf("%v: behind later calls, and a change of another answer: %v", c, two)
		}
		wantCut(t, "behind a change of an answer", want, c, s)
	}
}

func TestP1502KeepsWhatWasHandedIn(t *testing.T) {
	was := sample.Bytes(1000)
	for _, c := range cutters() {
		cut := c.Cut(was)
		old := append(slices.Clone(cut), make([]api.Span, 40)...)
		had := slices.Clone(old)
		for at := 0; at <= len(was); at += 50 {
			s := was[:at] + "xyz" + was[at:]
			l, _ := split.Again(c, old[:len(cut)], s, at, at+3, 3)
			for k := range l {
				l[k] = span(-1, -1)
			}
			split.Again(c, old[:len(cut)], was, at, at, 0)
			split.Again(c, old[:len(cut)], was, -1, at, 0)
			split.Again(c, old[:len(cut)/2], was, at, at, 0)
		}
		if !slices.Equal(old, had) {
			t.Errorf("%v: what was handed in, or its room, is now %v", c, old)
		}
	}
}

// owned asks that of two answers of the same neither hangs on the other, nor on old.
func owned(t *testing.T, what string, c split.Cutter, old []api.Span, s string, from, to, grown int) {
	t.Helper()
	want := c.Cut(s)
	one, _ := split.Again(c, old, s, from, to, grown)
	two, _ := split.Again(c, old, s, from, to, grown)
	for k := range one {
		one[k] = span(7, 7)
	}
	_ = append(one[:len(one)/2], span(5, 5))
	for k := range old {
		old[k] = span(9, 9)
	}
	split.Again(c, want, s, len(s), len(s), 0)
	split.Again(even(1), nil, "abc", 0, 3, 3)
	if !slices.Equal(two, want) {
		t.Errorf("%s: %v: behind later calls, and a change of old and of another answer: %v, not %v", what, c, two, want)
	}
}

func TestP1502AnswersAreTheirOwn(t *testing.T) {
	s := sample.Bytes(1000)
	for _, c := range []split.Cutter{even(64), even(2000), stores(), lines{}} {
		owned(t, "nothing changed, the end", c, c.Cut(s), s, 1000, 1000, 0)
		owned(t, "nothing changed, the beginning", c, c.Cut(s), s, 0, 0, 0)
		owned(t, "nothing changed, in the midst", c, c.Cut(s), s, 500, 500, 0)
		owned(t, "bytes put in", c, c.Cut(s[:500]+s[510:]), s, 500, 510, 10)
		owned(t, "bytes taken away", c, c.Cut(s[:500]+"xyz"+s[500:]), s, 500, 500, -3)
		owned(t, "all others", c, c.Cut(sample.Bytes(999)), s, 0, 1000, 1)
		owned(t, "what may not be", c, c.Cut(s), s, -1, 1000, 0)
		owned(t, "old that is not Whole", c, c.Cut(s[:500]), s, 0, 1000, 0)
	}
}

// hoard is a cutter that answers the same list each time.
type hoard struct {
	split.Cutter
	list []api.Span
}

func (c hoard) Cut(...string) []api.Span { return c.list }

func TestP1502AnswersAreNotTheCuttersOwnList(t *testing.T) {
	s := sample.Bytes(300)
	c := hoard{even(64), fixed.Cut(64, s)}
	wantAll(t, "all", c, nil, s, 0, 300, 0)
	l, _ := split.Again(c, nil, s, 0, 300, 0)
	l[0] = span(7, 7)
	if c.list[0] != span(0, 64) {
		t.Error("a change of the answer is one of the list that the cutter keeps")
	}
}

func TestP1502NothingHangsOnEarlierCalls(t *testing.T) {
	was := sample.Bytes(700)
	s := was[:210] + "xyz" + was[210:]
	for _, c := range cutters() {
		old := c.Cut(was)
		want, n := split.Again(c, old, s, 210, 213, 3)
		for _, x := range cutters() {
			split.Again(x, x.Cut(s), was, 210, 210, -3)
			split.Again(x, nil, s, -1, 3, 0)
			wantAgain(t, "behind calls of another cutter", want, n, c, old, s, 210, 213, 3)
		}
	}
}
