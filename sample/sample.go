// Package sample has what the tests of several packages hand in.
package sample

import (
	"math"
	"slices"
	"strings"

	"masonry/api"
)

// Bytes tells n bytes that look like nothing in particular.
func Bytes(n int) string {
	b := make([]byte, n)
	x := uint32(n) + 1
	for k := range b {
		x = x*1664525 + 1013904223
		b[k] = byte(x >> 24)
	}
	return string(b)
}

// Lengths tells texts of each length up to a few blocks of 64 bytes, and some long ones.
func Lengths() []string {
	var l []string
	for n := range 400 {
		l = append(l, Bytes(n), same(0, n), same(255, n))
	}
	for _, n := range []int{4095, 4096, 65536, 1<<20 + 63} {
		l = append(l, Bytes(n))
	}
	return l
}

// Blocks tells for each byte a text of it alone, and a block of 64 of them.
func Blocks() []string {
	var l []string
	for k := range 256 {
		l = append(l, same(byte(k), 1), same(byte(k), 64))
	}
	return l
}

// Edges tells texts that end near a place where a digest of blocks of 64 bytes turns, cut and with empty ones beside them.
func Edges() [][]string {
	var l [][]string
	for _, n := range []int{54, 55, 56, 57, 63, 64, 65, 119, 120, 127, 128, 129} {
		b := Bytes(n)
		l = append(l, []string{b}, []string{b[:n-1], b[n-1:]}, []string{b[:1], b[1:]}, []string{"", b, "", ""}, Single(b))
	}
	return l
}

// Cuts tells b cut at each place into two, and at each two places into three.
func Cuts(b string) [][]string {
	var l [][]string
	for j := range len(b) + 1 {
		l = append(l, []string{b[:j], b[j:]})
		for k := j; k <= len(b); k++ {
			l = append(l, []string{b[:j], b[j:k], b[k:]})
		}
	}
	return l
}

// Each tells every byte that there is.
func Each() string {
	b := make([]byte, 256)
	for k := range b {
		b[k] = byte(k)
	}
	return string(b)
}

// Nothing tells lists of texts that have no bytes.
func Nothing() [][]string {
	return [][]string{nil, {}, {""}, {"", ""}, make([]string, 300), make([]string, 0, 5)}
}

// Extremes tells the ints at either end.
func Extremes() []int {
	return []int{math.MinInt, math.MinInt + 1, math.MaxInt - 1, math.MaxInt}
}

// Uses tells by how many what is used once is used more, or less, one behind the other, up to 60,000 times at last.
func Uses() []int {
	return []int{0, 1, -1, 5, -3, -3, 1, -1, 255, 1, 300, 59444, 0, -59999, -1, 60000, -60000, 59999, 1, -1, 1}
}

// Beyond tells what is too many more, or too many fewer, uses of what is used n times.
func Beyond(n int) []int {
	l := Extremes()
	for _, past := range []int{1, 2, 255, 5536, 65536, 1 << 32, 1<<62 + 1} {
		l = append(l, 60000-n+past, -n-past)
	}
	return append(l, math.MaxInt-60000, math.MinInt+60000, 1<<62, -1<<62)
}

// Below tells numbers of bytes that no piece has.
func Below() []int {
	return []int{0, -1, -2, -3, -64, -256, -1 << 16, -1 << 31, -1 << 32, -1<<32 + 4, math.MinInt32, math.MinInt, math.MinInt + 1, math.MinInt + 4}
}

// Great tells numbers of bytes above those of any text of up to 2^21 of them.
func Great() []int {
	return []int{1 << 21, 1 << 31, 1 << 32, 1<<32 + 1, 1<<32 + 4, math.MaxInt32, math.MaxInt / 2, math.MaxInt/2 + 1, math.MaxInt - 1, math.MaxInt}
}

// Pieces tells the spans of pieces of so many bytes, one behind the other.
func Pieces(lengths ...int) []api.Span {
	var l []api.Span
	at := 0
	for _, n := range lengths {
		l = append(l, api.Span{From: at, To: at + n})
		at += n
	}
	return l
}

// Single tells each byte of b in a text of its own.
func Single(b string) []string {
	l := make([]string, len(b))
	for k := range l {
		l[k] = b[k : k+1]
	}
	return l
}

// Full tells a sector of one byte, over and over.
func Full(b byte) string { return same(b, api.Sector) }

// Other tells a sector that hangs on two numbers.
func Other(k, salt int) string {
	return Bytes(1000 + 7*k + 3*salt)[:api.Sector-2] + string([]byte{byte(k), byte(k >> 8)})
}

// Put tells a write of a Full sector.
func Put(at int, b byte) api.Write { return api.Write{At: at, Data: Full(b)} }

// UpTo tells the numbers from and on, below to.
func UpTo(from, to int) []int {
	var l []int
	for at := from; at < to; at++ {
		l = append(l, at)
	}
	return l
}

// Outside tells numbers that are no home sector of n.
func Outside(n int) []int {
	return []int{-1, -2, -110, -111, -112, -n, n, n + 1, n + 111, n + 1000, 1900, 2000, 1 << 16, 1<<32 + 2, -1<<32 + 2, math.MaxInt, math.MaxInt - 111, math.MinInt, math.MinInt + 2}
}

// Misfits tells what is no sector.
func Misfits() []string {
	var l []string
	for _, n := range []int{0, 1, 128, 254, 255, 257, 258, 511, 512, 65536, 65536 + 256} {
		l = append(l, strings.Repeat("x", n))
	}
	return l
}

// Choices tells each choice of which of n writes a Crash keeps.
func Choices(n int) [][]int {
	var l [][]int
	for x := range 1 << n {
		keep := make([]int, n)
		for k := range keep {
			keep[k] = x >> k & 1
		}
		l = append(l, keep)
	}
	return l
}

// Somes tells a few choices of which of n writes a Crash keeps.
func Somes(n int) [][]int {
	l := make([][]int, 6)
	for k := range n {
		for m, keep := range []int{0, 1, k & 1, 1 - k&1, k * k % 7, k / (n/2 + 1)} {
			l[m] = append(l[m], keep)
		}
	}
	return l
}

// Changed tells b with the byte at k exclusive or by.
func Changed(b string, k int, by byte) string {
	l := []byte(b)
	l[k] ^= by
	return string(l)
}

// Draw tells numbers that look like nothing in particular, one behind the other.
type Draw uint32

// Below tells the next number, below n.
func (r *Draw) Below(n int) int {
	*r = *r*1664525 + 1013904223
	return int(*r>>8) % n
}

// One tells one of l.
func (r *Draw) One(l ...int) int { return l[r.Below(len(l))] }

// Shuffled tells numbers in some order.
func (r *Draw) Shuffled(l []int) []int {
	l = slices.Clone(l)
	for n := range l {
		m := n + r.Below(len(l)-n)
		l[n], l[m] = l[m], l[n]
	}
	return l
}

// same tells n times the byte b.
func same(b byte, n int) string {
	l := make([]byte, n)
	for k := range l {
		l[k] = b
	}
	return string(l)
}
