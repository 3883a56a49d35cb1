package shatwo

import (
	"crypto/sha256"
	"encoding/hex"
	"fmt"
	"math"
	"math/big"
	"slices"
	"strings"
	"testing"

	"masonry/sample"
	"masonry/shaone"
)

// primes tells the first n primes.
func primes(n int) []int64 {
	var l []int64
	for p := int64(2); len(l) < n; p++ {
		if !slices.ContainsFunc(l, func(q int64) bool { return p%q == 0 }) {
			l = append(l, p)
		}
	}
	return l
}

// behindPoint tells the first 32 bits behind the point of the cube root of p.
func behindPoint(p int64) uint32 {
	cube := new(big.Int).Lsh(big.NewInt(p), 3*32)
	root := new(big.Int)
	for bit := 40; bit >= 0; bit-- {
		more := new(big.Int).SetBit(root, bit, 1)
		if new(big.Int).Exp(more, big.NewInt(3), nil).Cmp(cube) <= 0 {
			root = more
		}
	}
	return uint32(root.Uint64())
}

// wantKey asks that Key of t is want.
func wantKey(t *testing.T, of int, want uint32) {
	t.Helper()
	if got := Key(of); got != want {
		t.Errorf("Key(%d): %#08x, not %#08x", of, got, want)
	}
}

// wantSum asks that Sum of l is want, in hexadecimal digits.
func wantSum(t *testing.T, what, want string, l ...string) {
	t.Helper()
	if got := hex.EncodeToString([]byte(Sum(l...))); got != want {
		t.Errorf("%s: %s, not %s", what, got, want)
	}
}

// wantLibrary asks that Sum of l is what the library tells of all of l, one behind the other.
func wantLibrary(t *testing.T, l ...string) {
	t.Helper()
	b := strings.Join(l, "")
	sum := sha256.Sum256([]byte(b))
	wantSum(t, fmt.Sprintf("%d bytes %.20x in %d texts", len(b), b, len(l)), hex.EncodeToString(sum[:]), l...)
}

// P401: Key.

func TestP401Key(t *testing.T) {
	wantKey(t, 0, 0x428a2f98)
	wantKey(t, 1, 0x71374491)
	wantKey(t, 2, 0xb5c0fbcf)
	wantKey(t, 30, 0x06ca6351)
	wantKey(t, 62, 0xbef9a3f7)
	wantKey(t, 63, 0xc67178f2)
}

func TestP401KeyOfEachPrime(t *testing.T) {
	l := primes(64)
	if l[63] != 311 {
		t.Fatalf("the last prime is %d, not 311", l[63])
	}
	for k, p := range l {
		wantKey(t, k, behindPoint(p))
	}
}

func TestP401KeyOfNoRound(t *testing.T) {
	for _, k := range []int{-1, -2, -63, -64, math.MinInt64, math.MinInt64 + 1, math.MinInt64 + 63, 64, 65, 127, 128, 256, 1 << 32, 1<<32 + 1, math.MaxInt64 - 1, math.MaxInt64} {
		wantKey(t, k, 0)
	}
}

// P402: Sum.

func TestP402Known(t *testing.T) {
	const none = "e3b0c44298fc1c149afbf4c8996fb92427ae41e4649b934ca495991b7852b855"
	const abc = "ba7816bf8f01cfea414140de5dae2223b00361a396177a9cb410ff61f20015ad"
	wantSum(t, "no texts", none)
	wantSum(t, "a nil list", none, nil...)
	wantSum(t, "an empty list", none, []string{}...)
	wantSum(t, "an empty text", none, "")
	wantSum(t, "empty texts", none, "", "", "")
	wantSum(t, "abc", abc, "abc")
	wantSum(t, "abc in three", abc, "a", "b", "c")
	wantSum(t, "abc between empty ones", abc, "", "a", "", "", "bc", "")
	wantSum(t, "56 bytes", "248d6a61d20638b8e5c026930c3e6039a33ce45964ff2167f6ecedd419db06c1", "abcdbcdecdefdefgefghfghighijhijkijkljklmklmnlmnomnopnopq")
	wantSum(t, "112 bytes", "cf5b16a778af8380036ce59e7b0492370b249b11e8f07a51afac45037afee9d1", "abcdefghbcdefghicdefghijdefghijkefghijklfghijklmghijklmnhijklmno", "ijklmnopjklmnopqklmnopqrlmnopqrsmnopqrstnopqrstu")
	wantSum(t, "a million bytes", "cdc76e5c9914fb9281a1c7e284d73e67f1809a48a497200e046d39ccc7112cd0", strings.Repeat("a", 1000000))
	wantSum(t, "a million bytes of ten", "cdc76e5c9914fb9281a1c7e284d73e67f1809a48a497200e046d39ccc7112cd0", slices.Repeat([]string{"aaaaaaaaaa"}, 100000)...)
}

func TestP402EachLength(t *testing.T) {
	for _, b := range sample.Lengths() {
		wantLibrary(t, b)
	}
}

func TestP402EachByte(t *testing.T) {
	for _, b := range sample.Blocks() {
		wantLibrary(t, b)
	}
}

func TestP402Edges(t *testing.T) {
	for _, l := range sample.Edges() {
		wantLibrary(t, l...)
	}
}

func TestP402OneTextCut(t *testing.T) {
	for _, n := range []int{55, 56, 63, 64, 65, 130} {
		for _, l := range sample.Cuts(sample.Bytes(n)) {
			wantLibrary(t, l...)
		}
	}
}

func TestP402OrderCounts(t *testing.T) {
	wantLibrary(t, "ab", "c")
	wantLibrary(t, "c", "ab")
	if Sum("ab", "c") == Sum("c", "ab") {
		t.Error("the order of the texts does not count")
	}
	if Sum("a") == Sum("a\x00") || Sum("a") == Sum("a"+shaone.Pad(1)) {
		t.Error("what stands behind the bytes does not count")
	}
}

func TestP402KeepsNothing(t *testing.T) {
	l := []string{"a", "", sample.Bytes(70), "d"}
	had := slices.Clone(l)
	one := Sum(l...)
	Sum(l[:2]...)
	Sum("another", sample.Bytes(300))
	if two := Sum(l...); one != two {
		t.Errorf("the same texts: %x, then %x", one, two)
	}
	if !slices.Equal(l, had) {
		t.Errorf("what was handed in is now %q", l)
	}
}
