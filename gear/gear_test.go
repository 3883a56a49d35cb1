package gear

import (
	"fmt"
	"math"
	"math/big"
	"slices"
	"strings"
	"testing"

	"masonry/sample"
)

// shown is a text of 64 bytes: as many as a number of 64 bits shows.
const shown = 64

// starts tells numbers to roll on from: the ends, and some with the highest bit and without.
func starts() []uint64 {
	return []uint64{0, 1, 5, 1<<62 + 3, 1<<63 - 1, 1 << 63, 1<<63 + 1, math.MaxUint64 - 1, math.MaxUint64}
}

// each tells every byte that there is.
func each() []byte { return []byte(sample.Each()) }

// worked tells the number of b, worked out in whole numbers without an end.
func worked(b byte) uint64 {
	x := big.NewInt(int64(b) + 1)
	times := func(by string) {
		n, _ := new(big.Int).SetString(by, 16)
		x.Mul(x, n).Mod(x, new(big.Int).Lsh(big.NewInt(1), 64))
	}
	fold := func(n uint) { x.Xor(x, new(big.Int).Rsh(x, n)) }
	times("9e3779b97f4a7c15")
	fold(30)
	times("bf58476d1ce4e5b9")
	fold(27)
	times("94d049bb133111eb")
	fold(31)
	return x.Uint64()
}

// together tells what h and the bytes l make, each of them shifted at once by how many stand behind it.
func together(h uint64, l string) uint64 {
	h <<= len(l)
	for k := range len(l) {
		h += Value(l[k]) << (len(l) - 1 - k)
	}
	return h
}

// wantValue asks that Value of b is want.
func wantValue(t *testing.T, b byte, want uint64) {
	t.Helper()
	if got := Value(b); got != want {
		t.Errorf("Value(%d): %#x, not %#x", b, got, want)
	}
}

// wantRoll asks that Roll of h by l is want.
func wantRoll(t *testing.T, what string, want, h uint64, l ...byte) {
	t.Helper()
	if got := Roll(h, l...); got != want {
		t.Errorf("%s: Roll(%#x, %d bytes %.20x): %#x, not %#x", what, h, len(l), l, got, want)
	}
}

// wantOf asks that Of l is want.
func wantOf(t *testing.T, what string, want uint64, l ...string) {
	t.Helper()
	if got := Of(l...); got != want {
		t.Errorf("%s: Of(%d texts %.40q): %#x, not %#x", what, len(l), l, got, want)
	}
}

// P501: Value.

func TestP501Value(t *testing.T) {
	wantValue(t, 0, 0xe220a8397b1dcdaf)
	wantValue(t, 1, 0x6e789e6aa1b965f4)
	wantValue(t, 2, 0x06c45d188009454f)
	wantValue(t, 3, 0xf88bb8a8724c81ec)
	wantValue(t, 4, 0x1b39896a51a8749b)
	wantValue(t, 127, 0x12d05c4045a39c19)
	wantValue(t, 128, 0x9899202fd20f0841)
	wantValue(t, 254, 0x011f04f2a75fb9be)
	wantValue(t, 255, 0x5a5832bb47bcf19e)
}

func TestP501ValueOfEachByte(t *testing.T) {
	for _, b := range each() {
		wantValue(t, b, worked(b))
	}
}

// P501: Roll.

func TestP501Roll(t *testing.T) {
	wantRoll(t, "example", Value(7), 0, 7)
	wantRoll(t, "a byte", 0xe220a8397b1dcdaf, 0, 0)
	wantRoll(t, "two bytes", 0x32b9eedd97f50152, 0, 0, 1)
	wantRoll(t, "three bytes", 0x6c383ad3aff347f3, 0, 0, 1, 2)
	wantRoll(t, "letters", 0xa7cf28b23655821a, 0, 'a', 'b', 'c')
	wantRoll(t, "on from 5", 0xe3b599edc37c114b, 5, 1, 2)
	wantRoll(t, "the highest bit is lost", 0xe220a8397b1dcdaf, 1<<63, 0)
	wantRoll(t, "the greatest number", 0xe220a8397b1dcdad, math.MaxUint64, 0)
	wantRoll(t, "the greatest number, on", 0x32b9eedd97f5014e, math.MaxUint64, 0, 1)
	wantRoll(t, "the greatest of both", 0x5a5832bb47bcf19c, math.MaxUint64, 255)
	wantRoll(t, "64 bytes", 0xec2ef8432972abfd, 0, each()[:64]...)
	wantRoll(t, "each byte", 0x5f484b3d6f39b32a, 0, each()...)
}

func TestP501RollOfNoBytes(t *testing.T) {
	for _, h := range starts() {
		wantRoll(t, "none", h, h)
		wantRoll(t, "a nil list", h, h, nil...)
		wantRoll(t, "an empty list", h, h, []byte{}...)
		wantRoll(t, "an empty list with room", h, h, each()[:0]...)
	}
}

func TestP501RollOfOneByte(t *testing.T) {
	for _, h := range starts() {
		for _, b := range each() {
			wantRoll(t, "one byte", 2*h+Value(b), h, b)
			wantRoll(t, "one byte, but for the highest bit", 2*h+Value(b), h^1<<63, b)
		}
	}
}

func TestP501RollOfMany(t *testing.T) {
	for _, h := range starts() {
		for n := range 3 * shown {
			b := sample.Bytes(n)
			wantRoll(t, "many", together(h, b), h, []byte(b)...)
		}
	}
}

func TestP501RollOneByOneAndAllAtOnce(t *testing.T) {
	b := []byte(sample.Bytes(130))
	for _, h := range starts() {
		all, one := Roll(h, b...), h
		for k, x := range b {
			one = Roll(one, x)
			wantRoll(t, "the first ones", one, h, b[:k+1]...)
			wantRoll(t, "the other ones", all, one, b[k+1:]...)
		}
		for _, n := range []int{2, 3, 63, 64, 65} {
			on := h
			for l := range slices.Chunk(b, n) {
				on = Roll(on, l...)
			}
			if on != all {
				t.Errorf("%d by %d: %#x, not %#x", n, n, on, all)
			}
		}
	}
}

func TestP501RollKeepsWhatWasHandedIn(t *testing.T) {
	for _, n := range []int{0, 1, 5, 64, 256} {
		room := each()
		wantRoll(t, "a list with room", together(3, string(room[:n])), 3, room[:n]...)
		wantRoll(t, "a list with room, again", together(3, string(room[:n])), 3, room[:n]...)
		if !slices.Equal(room, each()) {
			t.Errorf("%d bytes: what was handed in, or its room, is now %x", n, room)
		}
	}
}

// P501: Of.

func TestP501Of(t *testing.T) {
	wantOf(t, "no texts", 0)
	wantOf(t, "a nil list", 0, nil...)
	wantOf(t, "an empty list", 0, []string{}...)
	wantOf(t, "an empty text", 0, "")
	wantOf(t, "empty texts", 0, "", "", "")
	wantOf(t, "a byte", Value('a'), "a")
	wantOf(t, "a zero byte", 0xe220a8397b1dcdaf, "\x00")
	wantOf(t, "abc", 0xa7cf28b23655821a, "abc")
	wantOf(t, "abc in three", 0xa7cf28b23655821a, "a", "b", "c")
	wantOf(t, "abc between empty ones", 0xa7cf28b23655821a, "", "a", "", "", "bc", "")
	wantOf(t, "zero bytes ahead", 0x32b9eedd97f50152, "\x00", "\x01")
	wantOf(t, "not runes", Roll(0, 0xff, 0x80, 0xe2, 0x82, 0xac), "\xff\x80", "\u20ac")
	wantOf(t, "a rune in two", Roll(0, 0xe2, 0x82, 0xac), "\xe2", "\x82\xac")
	wantOf(t, "each byte", 0x5f484b3d6f39b32a, string(each()))
}

func TestP501OfOrderCounts(t *testing.T) {
	wantOf(t, "ab, c", Roll(0, 'a', 'b', 'c'), "ab", "c")
	wantOf(t, "c, ab", Roll(0, 'c', 'a', 'b'), "c", "ab")
	if Of("ab", "c") == Of("c", "ab") {
		t.Error("the order of the texts does not count")
	}
}

func TestP501OfEachLength(t *testing.T) {
	for _, l := range [][]string{sample.Lengths(), sample.Blocks()} {
		for _, b := range l {
			wantOf(t, fmt.Sprintf("%d bytes", len(b)), together(0, b), b)
			wantOf(t, fmt.Sprintf("%d bytes, rolled", len(b)), Roll(0, []byte(b)...), b)
		}
	}
}

func TestP501OfOneTextCut(t *testing.T) {
	for _, n := range []int{0, 1, 2, 63, 64, 65, 130} {
		b := sample.Bytes(n)
		for _, l := range sample.Cuts(b) {
			wantOf(t, fmt.Sprintf("%d bytes", n), together(0, b), l...)
		}
		wantOf(t, fmt.Sprintf("%d bytes, byte by byte", n), together(0, b), sample.Single(b)...)
	}
}

func TestP501OfKeepsNothing(t *testing.T) {
	l := []string{"a", "", sample.Bytes(70), "d"}
	had := slices.Clone(l)
	one := Of(l...)
	wantOf(t, "a list with room", Value('a'), l[:2]...)
	Of("another", sample.Bytes(300))
	wantOf(t, "the same texts", one, l...)
	if !slices.Equal(l, had) {
		t.Errorf("what was handed in is now %q", l)
	}
}

// P502: Of hangs on the last 64 bytes alone.

// heads tells texts to stand ahead of others.
func heads() []string {
	return []string{"", "\x00", "\x01", "x", "y", "\xff", sample.Bytes(63), sample.Bytes(64), sample.Bytes(65), sample.Bytes(1000), strings.Repeat("\xff", 300)}
}

func TestP502WhatIsAheadDoesNotCount(t *testing.T) {
	for _, n := range []int{64, 65, 66, 127, 128, 129, 300, 4096} {
		b := sample.Bytes(n)
		last := b[n-shown:]
		want := together(0, last)
		wantOf(t, "the last 64", want, last)
		wantOf(t, "all", want, b)
		for _, h := range heads() {
			wantOf(t, "behind another text", want, h, b)
			wantOf(t, "behind others, the last 64 in three", want, h, h, last[:1], last[1:60], last[60:])
			wantOf(t, "in one text", want, h+last)
			wantRoll(t, "on from another's number", want, Of(h), []byte(last)...)
		}
	}
}

func TestP502RollOf64BytesFromAnyNumber(t *testing.T) {
	b := []byte(sample.Bytes(65))
	for _, h := range starts() {
		wantRoll(t, "64 bytes", Roll(0, b[1:]...), h, b[1:]...)
		wantRoll(t, "65 bytes", Roll(0, b[1:]...), h, b...)
	}
	if Roll(0, b[2:]...) == Roll(1, b[2:]...) {
		t.Error("of 63 bytes the number ahead does not count")
	}
}

// unlike tells a byte whose number differs from that of b in its lowest bit, the last one that shifting loses.
func unlike(b byte) byte {
	if Value(b)&1 == Value(0)&1 {
		return 1
	}
	return 0
}

func TestP502EachOfTheLast64Counts(t *testing.T) {
	if Value(0)&1 == Value(1)&1 {
		t.Fatal("the numbers of 0 and 1 do not differ in their lowest bit")
	}
	for _, n := range []int{63, 64, 65, 200} {
		b := []byte(sample.Bytes(n))
		was := Of(string(b))
		for k, x := range b {
			b[k] = unlike(x)
			if counts := Of(string(b)) != was; counts != (n-k <= shown) {
				t.Errorf("byte %d of %d: does it count: %v", k, n, counts)
			}
			b[k] = x
		}
	}
}

func TestP502TheByteAheadOf63Counts(t *testing.T) {
	b := sample.Bytes(63)
	for _, x := range each() {
		want := together(0, b) + Value(x)<<63
		ahead := string([]byte{x})
		wantOf(t, "64 bytes", want, ahead, b)
		wantOf(t, "65 bytes", want, "\x00"+ahead+b)
	}
}
