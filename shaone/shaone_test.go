package shaone

import (
	"crypto/sha1"
	"encoding/binary"
	"encoding/hex"
	"fmt"
	"math"
	"slices"
	"strings"
	"testing"

	"masonry/sample"
)

// wantPad asks that Pad of n is want.
func wantPad(t *testing.T, n int, want string) {
	t.Helper()
	if got := Pad(n); got != want {
		t.Errorf("Pad(%d): %d bytes %x, not %d bytes %x", n, len(got), got, len(want), want)
	}
}

// wantSum asks that Sum of l is want, in hexadecimal digits.
func wantSum(t *testing.T, what, want string, l ...string) {
	t.Helper()
	if got := hex.EncodeToString([]byte(Sum(l...))); got != want {
		t.Errorf("%s: %s, not %s", what, got, want)
	}
}

// wantLibrary asks that Sum of l is what the library tells of all of l, one behind the other.
func wantLibrary(t *testing.T, l ...string) {
	t.Helper()
	b := strings.Join(l, "")
	sum := sha1.Sum([]byte(b))
	wantSum(t, fmt.Sprintf("%d bytes %.20x in %d texts", len(b), b, len(l)), hex.EncodeToString(sum[:]), l...)
}

// P301: Pad.

func TestP301Pad(t *testing.T) {
	zero := strings.Repeat("\x00", 64)
	wantPad(t, 0, "\x80"+zero[:55]+"\x00\x00\x00\x00\x00\x00\x00\x00")
	wantPad(t, 1, "\x80"+zero[:54]+"\x00\x00\x00\x00\x00\x00\x00\x08")
	wantPad(t, 3, "\x80"+zero[:52]+"\x00\x00\x00\x00\x00\x00\x00\x18")
	wantPad(t, 54, "\x80"+zero[:1]+"\x00\x00\x00\x00\x00\x00\x01\xb0")
	wantPad(t, 55, "\x80"+"\x00\x00\x00\x00\x00\x00\x01\xb8")
	wantPad(t, 56, "\x80"+zero[:63]+"\x00\x00\x00\x00\x00\x00\x01\xc0")
	wantPad(t, 57, "\x80"+zero[:62]+"\x00\x00\x00\x00\x00\x00\x01\xc8")
	wantPad(t, 63, "\x80"+zero[:56]+"\x00\x00\x00\x00\x00\x00\x01\xf8")
	wantPad(t, 64, "\x80"+zero[:55]+"\x00\x00\x00\x00\x00\x00\x02\x00")
	wantPad(t, 65, "\x80"+zero[:54]+"\x00\x00\x00\x00\x00\x00\x02\x08")
	wantPad(t, 119, "\x80"+"\x00\x00\x00\x00\x00\x00\x03\xb8")
	wantPad(t, 120, "\x80"+zero[:63]+"\x00\x00\x00\x00\x00\x00\x03\xc0")
}

func TestP301PadOfMany(t *testing.T) {
	zero := strings.Repeat("\x00", 64)
	wantPad(t, 1<<29, "\x80"+zero[:55]+"\x00\x00\x00\x01\x00\x00\x00\x00")
	wantPad(t, 1<<31-1, "\x80"+zero[:56]+"\x00\x00\x00\x03\xff\xff\xff\xf8")
	wantPad(t, 0x0123456789, "\x80"+zero[:46]+"\x00\x00\x00\x09\x1a\x2b\x3c\x48")
	wantPad(t, 1<<40-1, "\x80"+zero[:56]+"\x00\x00\x07\xff\xff\xff\xff\xf8")
	wantPad(t, 1<<40, "\x80"+zero[:55]+"\x00\x00\x08\x00\x00\x00\x00\x00")
}

func TestP301PadOfEach(t *testing.T) {
	for _, from := range []int{0, 1<<20 - 70, 1<<32 - 150, 1<<40 - 299} {
		for n := from; n < from+300; n++ {
			zeros := 0
			for (n+1+zeros)%64 != 56 {
				zeros++
			}
			want := append([]byte{128}, make([]byte, zeros)...)
			wantPad(t, n, string(binary.BigEndian.AppendUint64(want, 8*uint64(n))))
		}
	}
}

func TestP301PadOfWhatCanNotBe(t *testing.T) {
	for _, n := range []int{-1, -8, -9, -55, -64, math.MinInt64, math.MinInt64 + 1, math.MinInt64 + 56, 1<<40 + 1, 1<<40 + 64, 1 << 61, 1<<61 + 1, math.MaxInt64, math.MaxInt64 - 1} {
		wantPad(t, n, "")
	}
}

// P302: Sum.

func TestP302Known(t *testing.T) {
	const none = "da39a3ee5e6b4b0d3255bfef95601890afd80709"
	wantSum(t, "no texts", none)
	wantSum(t, "a nil list", none, nil...)
	wantSum(t, "an empty list", none, []string{}...)
	wantSum(t, "an empty text", none, "")
	wantSum(t, "empty texts", none, "", "", "")
	wantSum(t, "abc", "a9993e364706816aba3e25717850c26c9cd0d89d", "abc")
	wantSum(t, "abc in three", "a9993e364706816aba3e25717850c26c9cd0d89d", "a", "b", "c")
	wantSum(t, "abc between empty ones", "a9993e364706816aba3e25717850c26c9cd0d89d", "", "a", "", "", "bc", "")
	wantSum(t, "56 bytes", "84983e441c3bd26ebaae4aa1f95129e5e54670f1", "abcdbcdecdefdefgefghfghighijhijkijkljklmklmnlmnomnopnopq")
	wantSum(t, "112 bytes", "a49b2446a02c645bf419f995b67091253a04a259", "abcdefghbcdefghicdefghijdefghijkefghijklfghijklmghijklmnhijklmno", "ijklmnopjklmnopqklmnopqrlmnopqrsmnopqrstnopqrstu")
	wantSum(t, "a million bytes", "34aa973cd4c4daa4f61eeb2bdbad27316534016f", strings.Repeat("a", 1000000))
	wantSum(t, "a million bytes of ten", "34aa973cd4c4daa4f61eeb2bdbad27316534016f", slices.Repeat([]string{"aaaaaaaaaa"}, 100000)...)
}

func TestP302EachLength(t *testing.T) {
	for _, b := range sample.Lengths() {
		wantLibrary(t, b)
	}
}

func TestP302EachByte(t *testing.T) {
	for _, b := range sample.Blocks() {
		wantLibrary(t, b)
	}
}

func TestP302Edges(t *testing.T) {
	for _, l := range sample.Edges() {
		wantLibrary(t, l...)
	}
}

func TestP302OneTextCut(t *testing.T) {
	for _, n := range []int{55, 56, 63, 64, 65, 130} {
		for _, l := range sample.Cuts(sample.Bytes(n)) {
			wantLibrary(t, l...)
		}
	}
}

func TestP302OrderCounts(t *testing.T) {
	wantLibrary(t, "ab", "c")
	wantLibrary(t, "c", "ab")
	if Sum("ab", "c") == Sum("c", "ab") {
		t.Error("the order of the texts does not count")
	}
	if Sum("a") == Sum("a\x00") || Sum("a") == Sum("a"+Pad(1)) {
		t.Error("what stands behind the bytes does not count")
	}
}

func TestP302KeepsNothing(t *testing.T) {
	l := []string{"a", "", sample.Bytes(70), "d"}
	had := slices.Clone(l)
	one := Sum(l...)
	Sum(l[:2]...)
	Sum("another", sample.Bytes(300))
	if two := Sum(l...); one != two {
		t.Errorf("the same texts: %x, then %x", one, two)
	}
	if !slices.Equal(l, had) {
		t.Errorf("what was handed in is now %q", l)
	}
}
