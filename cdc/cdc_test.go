package cdc_test

import (
	"fmt"
	"math/bits"
	"slices"
	"strings"
	"testing"

	"masonry/api"
	"masonry/cdc"
	"masonry/fixed"
	"masonry/gear"
	"masonry/sample"
)

const (
	longest = 4096 // bytes of a piece, at most, written out: package cdc is the one that is asked
	hardest = 20   // bits that a rule asks for, at most
)

// rule tells a rule.
func rule(least, mid, most, hard, soft int) cdc.Rule {
	return cdc.Rule{Min: least, Mid: mid, Max: most, Hard: hard, Soft: soft}
}

// rules tells rules that are valid.
func rules() []cdc.Rule {
	return []cdc.Rule{
		cdc.Default(),
		rule(1, 1, 1, 0, 0), rule(1, 1, 1, 20, 20), rule(5, 5, 5, 3, 3), rule(longest, longest, longest, 0, 0), // of one length
		rule(2, 6, 9, 0, 20), rule(2, 6, 9, 20, 0), rule(2, 6, 9, 0, 0), rule(2, 6, 9, 20, 20),
		rule(2, 2, 9, 1, 3), rule(2, 9, 9, 3, 1), rule(2, 2, 9, 0, 20), rule(2, 9, 9, 20, 0),
		rule(1, 2, 3, 2, 1), rule(1, 8, 30, 4, 2), rule(10, 40, 50, 3, 20), rule(1, 64, 200, 6, 6),
		rule(1, 2048, longest, 12, 10), rule(1, 1, longest, 20, 20), rule(longest-1, longest-1, longest, 0, 1),
	}
}

// fields tells a rule's numbers.
func fields(r *cdc.Rule) []*int { return []*int{&r.Min, &r.Mid, &r.Max, &r.Hard, &r.Soft} }

// wrongs tells rules that are not valid, in each of the ways.
func wrongs() []cdc.Rule {
	l := []cdc.Rule{
		{}, rule(0, 2, 3, 1, 1), rule(-1, 2, 3, 1, 1), rule(0, 0, 0, 0, 0), rule(0, 0, 5, 0, 0), rule(-5, -4, -3, 1, 1), rule(1, 0, 0, 0, 0),
		rule(3, 2, 4, 1, 1), rule(5, 2, 4, 1, 1), rule(4, 2, 4, 1, 1), rule(2, 5, 4, 1, 1), rule(4, 5, 4, 1, 1), rule(5, 4, 3, 1, 1), rule(4, 4, 3, 1, 1), rule(4, 3, 3, 1, 1),
		rule(1, 2, longest+1, 1, 1), rule(longest+1, longest+1, longest+1, 1, 1), rule(1, longest+1, longest+1, 1, 1), rule(longest+1, 1, 1, 1, 1),
		rule(1, 2, 3, -1, 1), rule(1, 2, 3, 1, -1), rule(1, 2, 3, 21, 1), rule(1, 2, 3, 1, 21), rule(1, 2, 3, -1, -1), rule(1, 2, 3, 21, 21), rule(1, 2, 3, 64, 64),
	}
	for k := range 5 {
		for _, n := range slices.Concat(sample.Extremes(), []int{-1 << 32, -1<<32 + 40, 1<<32 + 40, 1 << 32, 1<<32 + 5, -64, -65}) {
			r := cdc.Default()
			*fields(&r)[k] = n
			l = append(l, r)
		}
	}
	return l
}

// ends tells whether a piece of the rule may end behind the byte at of s.
func ends(r cdc.Rule, s string, at int) bool {
	n := r.Hard
	if at >= r.Mid {
		n = r.Soft
	}
	return gear.Of(s[max(r.Min, at-63):at+1])/65536%(1<<n) == 0 // of all bytes from the place Min on, but for those that do not count any more
}

// first tells how many bytes the first piece of s has, by a rule that is valid.
func first(r cdc.Rule, s string) int {
	for at := r.Min; at < len(s) && at < r.Max; at++ {
		if ends(r, s, at) {
			return at + 1
		}
	}
	return min(len(s), r.Max)
}

// cuts tells the spans of s, by a rule that is valid.
func cuts(r cdc.Rule, s string) []api.Span {
	var l []int
	for at := 0; at < len(s); {
		n := first(r, s[at:])
		l = append(l, n)
		at += n
	}
	return sample.Pieces(l...)
}

// moved tells spans by bytes further on.
func moved(by int, l []api.Span) []api.Span {
	var to []api.Span
	for _, x := range l {
		to = append(to, api.Span{From: x.From + by, To: x.To + by})
	}
	return to
}

// other tells n bytes that hang on salt.
func other(n, salt int) string { return sample.Bytes(n + salt)[:n] }

// ending tells n bytes, the first piece of which has just so many.
func ending(t *testing.T, r cdc.Rule, piece, n int) string {
	t.Helper()
	for salt := range 20000 {
		if s := other(n, salt); first(r, s) == piece {
			return s
		}
	}
	t.Fatalf("no %d bytes were found whose first piece has %d, by %v", n, piece, r)
	return ""
}

// endless tells n bytes behind none of which a piece ends, from the place Min on.
func endless(t *testing.T, r cdc.Rule, n int) string {
	t.Helper()
	for salt := range 20000 {
		s := other(n, salt)
		if !slices.ContainsFunc(sample.UpTo(r.Min, min(n, r.Max)), func(at int) bool { return ends(r, s, at) }) {
			return s
		}
	}
	t.Fatalf("no %d bytes were found behind none of which a piece ends, by %v", n, r)
	return ""
}

// tails tells texts to stand behind others.
func tails() []string {
	return []string{"", "\x00", "x", "\xff", sample.Bytes(31), sample.Bytes(300), strings.Repeat("\x75", 40), strings.Repeat("\x00", 5000)}
}

// texts tells texts to be cut: of many lengths, of bytes that are all alike, of each byte, of many bytes.
func texts() []string {
	var l []string
	for k, s := range sample.Lengths()[:1200] {
		if k%11 == 0 || k < 30 {
			l = append(l, s)
		}
	}
	for b := range 256 {
		l = append(l, strings.Repeat(string([]byte{byte(b)}), 150))
	}
	return append(l, sample.Each(), sample.Each()+sample.Each(), sample.Bytes(1200), sample.Bytes(4095), sample.Bytes(9000), strings.Repeat("abcdefg", 200))
}

// wantValid asks that Valid answers want.
func wantValid(t *testing.T, what string, want bool, r cdc.Rule) {
	t.Helper()
	if got := r.Valid(); got != want {
		t.Errorf("%s: Valid of %v: %v", what, r, got)
	}
}

// wantFirst asks that First answers want.
func wantFirst(t *testing.T, what string, want int, r cdc.Rule, s string) {
	t.Helper()
	if got := r.First(s); got != want {
		t.Errorf("%s: First by %v of %d bytes %.40q: %d, not %d", what, r, len(s), s, got, want)
	}
}

// wantCut asks that Cut answers want.
func wantCut(t *testing.T, what string, want []api.Span, r cdc.Rule, l ...string) {
	t.Helper()
	if got := r.Cut(l...); !slices.Equal(got, want) {
		t.Errorf("%s: Cut by %v of %d texts %.40q: %d spans %.300s, not %d: %.300s", what, r, len(l), l, len(got), fmt.Sprint(got), len(want), fmt.Sprint(want))
	}
}

// P1401: Valid, Default.

func TestP1401Valid(t *testing.T) {
	wantValid(t, "the least of all", true, rule(1, 1, 1, 0, 0))
	wantValid(t, "the greatest of all", true, rule(4096, 4096, 4096, 20, 20))
	wantValid(t, "rising", true, rule(1, 2, 3, 4, 5))
	wantValid(t, "the greatest Max", true, rule(1, 2, 4096, 1, 1))
	wantValid(t, "the greatest Hard", true, rule(1, 2, 3, 20, 1))
	wantValid(t, "the greatest Soft", true, rule(1, 2, 3, 1, 20))
	wantValid(t, "Hard below Soft", true, rule(1, 2, 3, 0, 20))
	wantValid(t, "Hard 0, Soft 0", true, rule(1, 2, 3, 0, 0))
	wantValid(t, "all three alike", true, rule(7, 7, 7, 1, 1))
	wantValid(t, "Min and Mid alike", true, rule(7, 7, 9, 1, 1))
	wantValid(t, "Mid and Max alike", true, rule(7, 9, 9, 1, 1))
	wantValid(t, "the zero Rule", false, cdc.Rule{})
	wantValid(t, "Min 0", false, rule(0, 2, 3, 1, 1))
	wantValid(t, "Min -1", false, rule(-1, 2, 3, 1, 1))
	wantValid(t, "all three 0", false, rule(0, 0, 0, 1, 1))
	wantValid(t, "Min above Mid", false, rule(3, 2, 4, 1, 1))
	wantValid(t, "Min above both", false, rule(5, 2, 4, 1, 1))
	wantValid(t, "Mid above Max", false, rule(1, 5, 4, 1, 1))
	wantValid(t, "Min above Max, Mid too", false, rule(5, 5, 4, 1, 1))
	wantValid(t, "falling", false, rule(3, 2, 1, 1, 1))
	wantValid(t, "Max 4,097", false, rule(1, 2, 4097, 1, 1))
	wantValid(t, "all three 4,097", false, rule(4097, 4097, 4097, 1, 1))
	wantValid(t, "Hard 21", false, rule(1, 2, 3, 21, 1))
	wantValid(t, "Soft 21", false, rule(1, 2, 3, 1, 21))
	wantValid(t, "Hard -1", false, rule(1, 2, 3, -1, 1))
	wantValid(t, "Soft -1", false, rule(1, 2, 3, 1, -1))
}

func TestP1401ValidAndNot(t *testing.T) {
	for _, r := range rules() {
		wantValid(t, "a rule", true, r)
	}
	for _, r := range wrongs() {
		wantValid(t, "a wrong one", false, r)
	}
}

// rises tells whether no number is less than the one ahead of it.
func rises(l ...int) bool { return slices.IsSorted(l) }

// values tells numbers to stand in a field: near the bounds of each, and far from all.
func values() []int {
	return slices.Concat(sample.Extremes(), []int{-1 << 32, -4096, -20, -2, -1, 0, 1, 2, 3, 5, 7, 19, 20, 21, 22, 31, 32, 33, 63, 64, 65, 127, 128, 129, 4095, 4096, 4097, 8192, 65537, 1<<32 + 1, 1<<32 + 20, 1<<32 + 64})
}

func TestP1401ValidOfEachField(t *testing.T) {
	for _, base := range rules() {
		for k := range 5 {
			for _, n := range values() {
				r := base
				*fields(&r)[k] = n
				wantValid(t, "one field", rises(1, r.Min, r.Mid, r.Max, 4096) && rises(0, r.Hard, 20) && rises(0, r.Soft, 20), r)
			}
		}
	}
}

func TestP1401ValidOfAnyFields(t *testing.T) {
	for _, least := range values() {
		for _, mid := range values() {
			for _, most := range values() {
				wantValid(t, "any lengths", rises(1, least, mid, most, 4096), rule(least, mid, most, 1, 1))
			}
		}
	}
	for _, hard := range values() {
		for _, soft := range values() {
			wantValid(t, "any bits", rises(0, hard, 20) && rises(0, soft, 20), rule(1, 1, 1, hard, soft))
			wantValid(t, "any bits of a rule that is not", false, rule(0, 1, 1, hard, soft))
		}
	}
}

func TestP1401Default(t *testing.T) {
	if got := cdc.Default(); got != rule(32, 64, 128, 7, 5) {
		t.Errorf("Default: %v", got)
	}
	wantValid(t, "Default", true, cdc.Default())
	r := cdc.Default()
	r.Min, r.Hard = 1, 0
	if got := cdc.Default(); got != rule(32, 64, 128, 7, 5) {
		t.Errorf("Default, behind a change of the one answered ahead: %v", got)
	}
}

// P1401: First.

func TestP1401First(t *testing.T) {
	d := cdc.Default()
	wantFirst(t, "example", 32, d, sample.Bytes(32))
	wantFirst(t, "no bytes", 0, d, "")
	wantFirst(t, "a byte", 1, d, "a")
	wantFirst(t, "fewer than Min", 31, d, sample.Bytes(31))
	wantFirst(t, "1,000 bytes", 52, d, sample.Bytes(1000))
	wantFirst(t, "1,200 bytes", 70, d, sample.Bytes(1200))
	wantFirst(t, "4,096 bytes", 65, d, sample.Bytes(4096))
	wantFirst(t, "from another place on", 128, d, sample.Bytes(1000)[52:])
	wantFirst(t, "each byte", 88, d, sample.Each())
	wantFirst(t, "zero bytes", 128, d, strings.Repeat("\x00", 300))
	wantFirst(t, "alike", 128, d, strings.Repeat("a", 300))
	wantFirst(t, "alike, behind the place Min", 33, d, strings.Repeat("u", 300))
	wantFirst(t, "alike, behind the third place from Min on", 36, d, strings.Repeat("%", 300))
	wantFirst(t, "alike, ahead of Mid", 52, d, strings.Repeat("7", 300))
	wantFirst(t, "of other numbers", 10, rule(1, 8, 30, 4, 2), sample.Bytes(100))
	wantFirst(t, "ahead of Mid", 11, rule(10, 40, 50, 3, 20), sample.Bytes(100))
	wantFirst(t, "many bits", 614, rule(1, 2048, 4096, 12, 10), sample.Bytes(65536))
	wantFirst(t, "many bits, from Mid on", 2359, rule(1, 2048, 4096, 12, 10), sample.Bytes(65536)[614:])
}

func TestP1401FirstOfNoBytes(t *testing.T) {
	for _, r := range slices.Concat(rules(), wrongs()) {
		wantFirst(t, "no bytes", 0, r, "")
		wantFirst(t, "no bytes of some", 0, r, sample.Bytes(9)[4:4])
	}
}

func TestP1401FirstOfUpToMinBytes(t *testing.T) {
	for _, r := range rules() {
		for _, n := range []int{1, 2, r.Min / 2, r.Min - 1, r.Min} {
			if n > r.Min {
				continue
			}
			wantFirst(t, "no more than Min", n, r, sample.Bytes(n))
			wantFirst(t, "no more than Min, alike", n, r, strings.Repeat("u", n))
		}
	}
}

// near tells how many bytes a text has that is asked of a rule: up to Min, Mid and Max, some less, and some more.
func near(r cdc.Rule) []int {
	var l []int
	for _, n := range []int{0, r.Min, r.Mid, r.Max} {
		for _, by := range []int{-2, -1, 0, 1, 2} {
			l = append(l, max(0, n+by))
		}
	}
	return append(l, r.Max+100, 2*r.Max, 3*r.Max+7)
}

func TestP1401FirstOfEachLength(t *testing.T) {
	for _, r := range rules() {
		for _, n := range near(r) {
			for salt := range 8 {
				s := other(n, salt)
				wantFirst(t, "any bytes", first(r, s), r, s)
			}
			for _, x := range []string{"\x00", "u", "%", "\xff"} {
				s := strings.Repeat(x, n)
				wantFirst(t, "alike", first(r, s), r, s)
			}
		}
	}
}

func TestP1401FirstOfManyTexts(t *testing.T) {
	for _, r := range rules() {
		for _, s := range texts() {
			wantFirst(t, "a text", first(r, s), r, s)
		}
	}
}

// wantEnd asks for the first piece of s, and of each part from its front on, where a piece ends behind so many bytes, and not ahead of there.
func wantEnd(t *testing.T, what string, piece int, r cdc.Rule, s string) {
	t.Helper()
	for n := range len(s) + 1 {
		wantFirst(t, what, min(n, piece), r, s[:n])
	}
	for _, tail := range tails() {
		wantFirst(t, what+", and another text", piece, r, s[:piece]+tail)
	}
}

func TestP1401FirstEndsAtAPlace(t *testing.T) {
	for _, r := range []cdc.Rule{cdc.Default(), rule(1, 8, 30, 4, 2), rule(3, 5, 7, 1, 1), rule(4, 4, 12, 9, 2), rule(4, 12, 12, 2, 9)} {
		for piece := r.Min + 1; piece <= r.Max; piece++ {
			s := ending(t, r, piece, r.Max+9)
			wantEnd(t, fmt.Sprintf("behind the place %d", piece-1), piece, r, s)
		}
	}
}

func TestP1401FirstEndsNowhere(t *testing.T) {
	for _, r := range []cdc.Rule{cdc.Default(), rule(1, 8, 30, 4, 2), rule(3, 5, 7, 1, 1), rule(4, 4, 12, 9, 2), rule(4, 12, 12, 2, 9), rule(2, 6, 9, 20, 20), rule(1, 1, 300, 20, 20)} {
		wantEnd(t, "nowhere", r.Max, r, endless(t, r, r.Max+9))
	}
	r := rule(1, 1, longest, 20, 20)
	s := endless(t, r, longest+200)
	for _, n := range []int{1, 2, longest - 1, longest, longest + 1, longest + 200} {
		wantFirst(t, "nowhere, of the greatest Max", min(n, longest), r, s[:n])
	}
}

func TestP1401FirstOfOneLength(t *testing.T) {
	for _, n := range []int{1, 2, 5, 64, longest - 1, longest} {
		for _, bits := range [][]int{{0, 0}, {0, 20}, {20, 0}, {7, 5}} {
			r := rule(n, n, n, bits[0], bits[1])
			for _, size := range []int{1, n - 1, n, n + 1, n + 2, 2 * n, 3*n + 1} {
				wantFirst(t, "of one length", min(n, size), r, sample.Bytes(size))
				wantFirst(t, "of one length, alike", min(n, size), r, strings.Repeat("u", size))
			}
		}
	}
}

func TestP1401FirstOfHardZero(t *testing.T) {
	for _, r := range []cdc.Rule{rule(1, 2, 2, 0, 20), rule(2, 6, 9, 0, 20), rule(2, 6, 9, 0, 0), rule(32, 64, 128, 0, 5), rule(8, 9, 9, 0, 20), rule(1, longest, longest, 0, 20)} {
		for _, s := range texts() {
			wantFirst(t, "behind the place Min", min(r.Min+1, len(s)), r, s)
		}
	}
	for _, r := range []cdc.Rule{rule(2, 2, 9, 0, 20), rule(32, 32, 128, 0, 20)} {
		wantEnd(t, "nothing is ahead of Mid", r.Max, r, endless(t, r, r.Max+9))
	}
}

func TestP1401FirstOfSoftZero(t *testing.T) {
	for _, r := range []cdc.Rule{rule(2, 6, 9, 20, 0), rule(1, 2, 3, 20, 0), rule(32, 64, 128, 20, 0), rule(2, 6, 7, 20, 0), rule(1, 1, 5, 20, 0), rule(4, 4, 9, 0, 0)} {
		s := endless(t, rule(r.Min, r.Mid, r.Mid, r.Hard, r.Soft), r.Max+9)
		wantEnd(t, "behind the place Mid", r.Mid+1, r, s)
	}
	for _, r := range []cdc.Rule{rule(2, 9, 9, 20, 0), rule(32, 128, 128, 20, 0)} {
		wantEnd(t, "nothing is behind Mid", r.Max, r, endless(t, r, r.Max+9))
	}
	for salt := range 300 {
		r, s := rule(3, 40, 60, 4, 0), other(99, salt)
		want := 41
		if k := slices.IndexFunc(sample.UpTo(3, 40), func(at int) bool { return ends(r, s, at) }); k >= 0 {
			want = 3 + k + 1
		}
		wantFirst(t, "at the latest behind the place Mid", want, r, s)
	}
}

// zeros tells how many of the bits are 0, from the one of 65,536 upwards, ahead of the first that is not.
func zeros(h uint64) int { return bits.TrailingZeros64(h >> 16) }

// until tells how many bytes there are up to the first whose number has n such zeros, or more; one more than all, if none has.
func until(s string, n int) int {
	h := uint64(0)
	for k := range len(s) {
		h = gear.Roll(h, s[k])
		if zeros(h) >= n {
			return k + 1
		}
	}
	return len(s) + 1
}

// rolled tells bytes whose number has just n such zeros at the last one, and fewer ahead.
func rolled(t *testing.T, n int) string {
	t.Helper()
	for salt := range 20000 {
		s := other(longest-8, salt)
		if end := until(s, n); end <= len(s) && end < until(s, n+1) {
			return s[:end]
		}
	}
	t.Fatalf("no bytes were found whose number has just %d zeros", n)
	return ""
}

func TestP1401FirstAsksForJustSoManyBits(t *testing.T) {
	for n := range hardest + 2 {
		s := rolled(t, n)
		for k := range hardest + 1 {
			want := 1 + until(s+"yz", k)
			for _, r := range []cdc.Rule{rule(1, longest, longest, k, 0), rule(1, 1, longest, 0, k)} {
				if k <= n && want > 1+len(s) || k > n && want <= 1+len(s) {
					t.Fatalf("of %d zeros behind %d bytes %d are behind %d", n, 1+len(s), k, want)
				}
				wantFirst(t, "at the end", min(want, 1+len(s)), r, "x"+s)
				wantFirst(t, "bytes behind it", min(want, 3+len(s)), r, "x"+s+"yz")
			}
		}
	}
}

func TestP1401FirstAsksForOtherBitsFromMidOn(t *testing.T) {
	for n := 8; n <= hardest; n++ {
		s := "x" + rolled(t, n)
		size := len(s)
		wantFirst(t, "enough ahead of Mid", size, rule(1, size, longest, n, 20), s+"yz")
		wantFirst(t, "enough at the place Mid", size, rule(1, size-1, longest, 20, n), s+"yz")
		if n < hardest {
			wantFirst(t, "enough for Soft, but ahead of Mid", size+1, rule(1, size, size+1, n+1, n), s+"yz")
			wantFirst(t, "enough for Hard, but at the place Mid", size+1, rule(1, size-1, size+1, n, n+1), s+"yz")
		}
	}
}

func TestP1401FirstOfTheByteAtMin(t *testing.T) {
	for b := range 256 {
		s := "abc" + string([]byte{byte(b)}) + "de"
		for n := range hardest + 1 {
			want := 5 // as Max, whatever the byte behind it
			if zeros(gear.Value(byte(b))) >= n {
				want = 4
			}
			wantFirst(t, "ahead of Mid", want, rule(3, 4, 5, n, 20), s)
			wantFirst(t, "at the place Mid", want, rule(3, 3, 5, 20, n), s)
		}
	}
}

func TestP1401FirstLooksAtNoByteAheadOfMin(t *testing.T) {
	for _, r := range rules() {
		s := sample.Bytes(3*r.Max + 50)
		want := first(r, s)
		for salt := range 6 {
			wantFirst(t, "other bytes ahead of Min", want, r, other(r.Min, salt)+s[r.Min:])
		}
		for _, x := range []string{"\x00", "u", "\xff"} {
			wantFirst(t, "bytes ahead of Min that are alike", want, r, strings.Repeat(x, r.Min)+s[r.Min:])
		}
		for _, k := range []int{0, r.Min / 2, r.Min - 1} {
			wantFirst(t, "another byte ahead of Min", want, r, s[:k]+string([]byte{s[k] ^ 0x55})+s[k+1:])
		}
	}
}

func TestP1401FirstLooksAtNoByteBehindThePiece(t *testing.T) {
	for _, r := range rules() {
		for salt := range 6 {
			s := other(r.Max+300, salt)
			want := first(r, s)
			for _, tail := range tails() {
				wantFirst(t, "another text behind the piece", want, r, s[:want]+tail)
			}
		}
	}
}

func TestP1401FirstOfAWrongRule(t *testing.T) {
	for _, r := range wrongs() {
		for _, n := range []int{0, 1, 2, 3, 31, 32, 33, 63, 64, 65, 127, 128, 129, 300, 4096, 4097, 9000} {
			wantFirst(t, "all of it", n, r, sample.Bytes(n))
			wantFirst(t, "all of it, alike", n, r, strings.Repeat("u", n))
		}
	}
}

// P1402: Cut.

func TestP1402Cut(t *testing.T) {
	d := cdc.Default()
	wantCut(t, "1,000 bytes", sample.Pieces(52, 128, 70, 66, 45, 128, 51, 113, 91, 61, 82, 75, 38), d, sample.Bytes(1000))
	wantCut(t, "1,200 bytes", sample.Pieces(70, 71, 126, 66, 42, 84, 96, 69, 100, 105, 49, 86, 37, 36, 52, 48, 63), d, sample.Bytes(1200))
	wantCut(t, "each byte", sample.Pieces(88, 36, 70, 62), d, sample.Each())
	wantCut(t, "each byte, four times", sample.Pieces(88, 36, 70, 65, 85, 36, 70, 65, 85, 36, 70, 65, 85, 36, 70, 62), d, sample.Each(), sample.Each(), sample.Each(), sample.Each())
	wantCut(t, "alike", sample.Pieces(128, 128, 44), d, strings.Repeat("a", 300))
	wantCut(t, "alike, behind the place Min", sample.Pieces(33, 33, 33, 1), d, strings.Repeat("u", 100))
	wantCut(t, "small pieces", sample.Pieces(10, 2, 3, 3, 15, 10, 10, 9, 9, 2, 12, 10, 5), rule(1, 8, 30, 4, 2), sample.Bytes(100))
	wantCut(t, "pieces ahead of Mid", sample.Pieces(11, 13, 19, 26, 23, 8), rule(10, 40, 50, 3, 20), sample.Bytes(100))
	wantCut(t, "Hard 0", sample.Pieces(3, 3, 3, 1), rule(2, 6, 9, 0, 20), sample.Bytes(10))
	wantCut(t, "Soft 0", sample.Pieces(7, 7, 2), rule(2, 6, 9, 20, 0), sample.Bytes(100)[84:])
	wantCut(t, "twenty bits", sample.Pieces(9, 9, 9, 9, 9, 9, 9, 9, 9, 9, 9, 1), rule(2, 6, 9, 20, 20), sample.Bytes(100))
	wantCut(t, "one length", sample.Pieces(5, 5, 5, 5, 4), rule(5, 5, 5, 3, 3), sample.Bytes(24))
	wantCut(t, "byte by byte", sample.Pieces(1, 1, 1), rule(1, 1, 1, 0, 0), "abc")
	long := []int{614, 2359, 2597, 2911, 237, 4096, 4096, 2621, 2734, 2124, 891, 1731, 735, 847, 806, 271, 2856, 2134, 1029, 2202, 412, 3414, 1363, 539, 281, 3176, 923, 1453, 1065, 3306, 889, 246, 2525, 2076, 905, 3108, 1964}
	wantCut(t, "many bytes", sample.Pieces(long...), rule(1, 2048, 4096, 12, 10), sample.Bytes(65536))
}

func TestP1402CutOfNoBytes(t *testing.T) {
	for _, r := range slices.Concat(rules(), wrongs()) {
		for _, l := range sample.Nothing() {
			wantCut(t, "no bytes", nil, r, l...)
		}
		wantCut(t, "no list", nil, r)
	}
}

func TestP1402CutOfUpToMinBytes(t *testing.T) {
	for _, r := range rules() {
		for _, n := range []int{1, 2, 31, r.Min / 2, r.Min - 1, r.Min} {
			if n < 1 || n > r.Min {
				continue
			}
			s := sample.Bytes(n)
			wantCut(t, "one piece", sample.Pieces(n), r, s)
			wantCut(t, "one piece, in two texts", sample.Pieces(n), r, s[:n/2], s[n/2:])
			wantCut(t, "one piece, byte by byte", sample.Pieces(n), r, sample.Single(s)...)
		}
	}
}

func TestP1402CutOfManyTexts(t *testing.T) {
	for _, r := range rules() {
		for _, s := range texts() {
			want := cuts(r, s)
			wantCut(t, "one text", want, r, s)
			wantCut(t, "in three", want, r, s[:len(s)/3], s[len(s)/3:len(s)/2], s[len(s)/2:])
			wantCut(t, "between empty ones", want, r, "", "", s[:len(s)/2], "", s[len(s)/2:], "")
		}
	}
}

func TestP1402CutIsFirstAndFirstOfWhatIsLeft(t *testing.T) {
	for _, r := range slices.Concat(rules(), wrongs()) {
		for _, s := range []string{sample.Bytes(1), sample.Bytes(130), sample.Bytes(1200), sample.Bytes(9000), strings.Repeat("u", 500)} {
			var l []int
			for at := 0; at < len(s); {
				n := r.First(s[at:])
				if n < 1 || n > len(s)-at {
					t.Fatalf("First by %v of %d bytes: %d", r, len(s)-at, n)
				}
				l = append(l, n)
				at += n
			}
			wantCut(t, "First by First", sample.Pieces(l...), r, s)
		}
	}
}

func TestP1402CutOfTheSameBytesInSeveral(t *testing.T) {
	small := []cdc.Rule{rule(1, 2, 3, 2, 1), rule(2, 6, 9, 1, 1), rule(1, 8, 30, 4, 2), rule(5, 5, 5, 3, 3), rule(1, 1, longest, 20, 20), {}}
	for _, r := range append(small, cdc.Default()) {
		for _, n := range []int{0, 1, 2, 3, 17, 40} {
			s := sample.Bytes(n)
			want := r.Cut(s)
			for _, l := range sample.Cuts(s) {
				wantCut(t, "two or three texts", want, r, l...)
			}
		}
	}
	s := sample.Bytes(300)
	want := cuts(cdc.Default(), s)
	for at := range len(s) + 1 {
		wantCut(t, "two texts", want, cdc.Default(), s[:at], s[at:])
		wantCut(t, "an empty one between", want, cdc.Default(), s[:at], "", s[at:])
		wantCut(t, "a byte between", want, cdc.Default(), s[:at], s[at:min(at+1, len(s))], s[min(at+1, len(s)):])
		wantCut(t, "a piece's length between", want, cdc.Default(), s[:at], s[at:min(at+64, len(s))], s[min(at+64, len(s)):])
	}
}

func TestP1402CutByteByByte(t *testing.T) {
	for _, r := range rules() {
		for _, n := range []int{1, 33, 128, 1200} {
			s := sample.Bytes(n)
			want := cuts(r, s)
			var l []string
			for _, x := range sample.Single(s) {
				l = append(l, "", x, "")
			}
			wantCut(t, "byte by byte", want, r, sample.Single(s)...)
			wantCut(t, "byte by byte, empty ones between", want, r, l...)
			for _, by := range []int{2, 31, 32, 33, 64, 128} {
				var parts []string
				for part := range slices.Chunk([]byte(s), by) {
					parts = append(parts, string(part))
				}
				wantCut(t, "so many at once", want, r, parts...)
			}
		}
	}
}

func TestP1402CutCutsNothingBetweenTexts(t *testing.T) {
	s := endless(t, cdc.Default(), 128)
	wantCut(t, "one piece in many texts", sample.Pieces(128), cdc.Default(), s[:32], s[32:33], s[33:64], s[64:65], s[65:128])
	wantCut(t, "texts of one piece each, which are one", sample.Pieces(24), cdc.Default(), "abcdefgh", "abcdefgh", "abcdefgh")
	l := []string{"ab", "c", "\xff\x80", "\u20ac", "\x00", strings.Repeat("u", 90)}
	wantCut(t, "bytes, not runes", cuts(cdc.Default(), strings.Join(l, "")), cdc.Default(), l...)
	wantCut(t, "no runes", sample.Pieces(1, 1, 1, 1, 1), rule(1, 1, 1, 0, 0), "\u20ac", "\xff\x80")
}

func TestP1402CutOfAWrongRule(t *testing.T) {
	for _, r := range wrongs() {
		for _, n := range []int{1, 2, 3, 32, 33, 128, 129, 4096, 4097, 9000} {
			s := sample.Bytes(n)
			wantCut(t, "all of it", sample.Pieces(n), r, s)
			wantCut(t, "all of it, in three texts", sample.Pieces(n), r, s[:n/3], s[n/3:n/2], s[n/2:])
			wantCut(t, "all of it, empty ones beside it", sample.Pieces(n), r, "", s, "", "")
		}
		wantCut(t, "byte by byte", sample.Pieces(300), r, sample.Single(sample.Bytes(300))...)
	}
}

// P1403: what follows of both.

func TestP1403SpansAreWholeAndOfMinToMaxBytes(t *testing.T) {
	for _, r := range rules() {
		for _, s := range texts() {
			l := r.Cut(s)
			if !fixed.Whole(len(s), l...) {
				t.Errorf("%v, %d bytes: not Whole: %v", r, len(s), l)
			}
			for k, x := range l {
				if n := x.To - x.From; n > r.Max || n < r.Min && k < len(l)-1 {
					t.Errorf("%v, %d bytes: %d in piece %d of %d", r, len(s), n, k, len(l))
				}
			}
		}
	}
	for _, r := range wrongs() {
		for _, n := range []int{0, 1, 5, 5000} {
			if l := r.Cut(sample.Bytes(n)); !fixed.Whole(n, l...) || len(l) != min(n, 1) {
				t.Errorf("%v, %d bytes: not Whole, or not one: %v", r, n, l)
			}
		}
	}
}

func TestP1403APieceByItselfIsOne(t *testing.T) {
	for _, r := range rules() {
		for _, s := range []string{sample.Bytes(700), sample.Bytes(9000)[:6000], strings.Repeat("u", 300), sample.Each()} {
			l := r.Cut(s)
			for k, x := range l[:min(len(l), 60)] {
				p := s[x.From:x.To]
				wantCut(t, "a piece by itself", sample.Pieces(len(p)), r, p)
				wantFirst(t, "a piece by itself", len(p), r, p)
				if k == len(l)-1 { // it may end because nothing is behind it
					continue
				}
				for _, tail := range tails()[:7] {
					wantFirst(t, "a piece, and another text", len(p), r, p+tail)
					wantCut(t, "a piece, and another text", slices.Concat(sample.Pieces(len(p)), moved(len(p), r.Cut(tail))), r, p, tail)
				}
			}
		}
	}
}

func TestP1403WhatIsBehindACutAndWhatIsAhead(t *testing.T) {
	for _, r := range rules() {
		s := sample.Bytes(1200)
		l := r.Cut(s)
		for k, x := range l {
			wantCut(t, "what is behind a cut", moved(-x.From, l[k:]), r, s[x.From:])
			wantCut(t, "what is ahead of a cut", l[:k], r, s[:x.From])
		}
	}
}

// shared tells the place of the first cut of a that b has, too, behind which both have the same bytes, no more than alike; it asks that all cuts behind it are the same.
func shared(t *testing.T, r cdc.Rule, a, b string, alike int) (int, bool) {
	t.Helper()
	x, y := r.Cut(a), r.Cut(b)
	by := len(a) - len(b)
	for j := range x {
		k := slices.IndexFunc(y, func(z api.Span) bool { return z.From+by == x[j].From })
		if k < 0 || len(a)-x[j].From > alike {
			continue
		}
		if got, want := moved(by, y[k:]), x[j:]; !slices.Equal(got, want) {
			t.Errorf("%v: behind a cut that is shared, %d bytes ahead of the end: %v, not %v", r, len(a)-x[j].From, got, want)
		}
		return x[j].From, true
	}
	return 0, false
}

func TestP1403BehindASharedCutAllCutsAreTheSame(t *testing.T) {
	tail := sample.Bytes(900)
	for _, r := range rules() {
		u, v := sample.Bytes(1500), sample.Bytes(1300)
		x, y := r.Cut(u), r.Cut(v)
		for j := 0; j < len(x); j += 1 + len(x)/12 {
			for k := 0; k < len(y); k += 1 + len(y)/12 {
				at, ok := shared(t, r, u[:x[j].From]+tail, v[:y[k].From]+tail, len(tail))
				if !ok || at != x[j].From {
					t.Errorf("%v: behind %d and %d bytes that are cut there: the first cut that is shared is at %d, %v", r, x[j].From, y[k].From, at, ok)
				}
			}
		}
	}
}

// edited asks what is to be asked of s, of which the bytes from from on, below to, are now others; it tells whether a cut is shared behind them.
func edited(t *testing.T, r cdc.Rule, s string, from, to int, others string) bool {
	t.Helper()
	now := s[:from] + others + s[to:]
	was, is := r.Cut(s), r.Cut(now)
	for k, x := range was[:len(was)-1] {
		if x.To <= from && (k >= len(is) || is[k] != x) {
			t.Errorf("%v: %d to %d are now %d bytes, but the piece %v ahead has changed: %v", r, from, to, len(others), x, is)
		}
	}
	_, ok := shared(t, r, s, now, len(s)-to)
	return ok
}

func TestP1403AnEditLeavesWhatIsAheadAndWhatIsBehindASharedCut(t *testing.T) {
	s := sample.Bytes(1200)
	for _, r := range rules() {
		for at := 0; at <= len(s); at += 29 {
			to := min(at+1, len(s))
			edited(t, r, s, at, to, "?")
			edited(t, r, s, at, to, "")
			edited(t, r, s, at, at, "x")
			edited(t, r, s, at, min(at+50, len(s)), "")
			edited(t, r, s, at, at, sample.Bytes(70))
			edited(t, r, s, at, len(s), "")
			edited(t, r, s, at, at, strings.Repeat("u", 200))
		}
	}
	for at := range 300 {
		if !edited(t, cdc.Default(), s, at, at+1, "?") || !edited(t, cdc.Default(), s, at, at, "xyz") || !edited(t, cdc.Default(), s, at, at+5, "") {
			t.Errorf("behind an edit at %d of 1,200 bytes no cut is shared", at)
		}
	}
}

// P1401, P1402: what is handed in stays, and what is answered is of its own.

func TestP1402KeepsWhatWasHandedIn(t *testing.T) {
	l := []string{sample.Bytes(40), "defg", "", sample.Bytes(300), "i"}
	had := slices.Clone(l)
	for _, r := range append(rules(), wrongs()...) {
		for n := range len(l) + 1 {
			s := strings.Join(had[:n], "")
			want := r.Cut(s)
			wantCut(t, "a list with room", want, r, l[:n]...)
			wantCut(t, "a list with room, again", want, r, l[:n]...)
			r.First(s)
		}
		if !slices.Equal(l, had) {
			t.Fatalf("%v: what was handed in, or its room, is now %q", r, l)
		}
	}
}

func TestP1402AnswersAreTheirOwn(t *testing.T) {
	d, l := cdc.Default(), []string{sample.Bytes(1000)[:300], sample.Bytes(1000)[300:]}
	want := sample.Pieces(52, 128, 70, 66, 45, 128, 51, 113, 91, 61, 82, 75, 38)
	one, two := d.Cut(l...), d.Cut(l...)
	one[0], one[12] = api.Span{From: 7, To: 7}, api.Span{From: 9, To: 9}
	_ = append(one[:1], api.Span{From: 5, To: 5})
	if !slices.Equal(two, want) {
		t.Errorf("behind a change of another answer: %v", two)
	}
	wantCut(t, "behind a change of an answer", want, d, l...)
	d.Cut(sample.Bytes(4096))
	rule(1, 1, 1, 0, 0).Cut(l...)
	d.First(l[1])
	cdc.Rule{}.Cut(l...)
	d.Valid()
	l[0], l[1] = "", "x"
	if !slices.Equal(two, want) {
		t.Errorf("behind later calls, and a change of what was handed in: %v", two)
	}
}

func TestP1401NothingHangsOnEarlierCalls(t *testing.T) {
	for _, r := range rules() {
		s := sample.Bytes(700)
		want := first(r, s)
		wantFirst(t, "ahead", want, r, s)
		for _, x := range slices.Concat(rules(), wrongs()[:30]) {
			x.First(other(500, 3))
			x.Cut(other(99, 1), "u")
			wantFirst(t, "behind calls of another rule", want, r, s)
			wantValid(t, "behind calls of another rule", true, r)
		}
	}
}
