package crc

import (
	"hash/crc32"
	"math"
	"slices"
	"strings"
	"testing"

	"masonry/api"
	"masonry/sample"
)

// sum tells the four bytes of a sum of b, told by the library.
func sum(b string) string {
	x := crc32.ChecksumIEEE([]byte(b))
	return string([]byte{byte(x), byte(x >> 8), byte(x >> 16), byte(x >> 24)})
}

// wantSeal asks that Seal lays want.
func wantSeal(t *testing.T, what, want string, n int, l ...string) {
	t.Helper()
	if got, e := Seal(n, l...); got != want || e != api.OK {
		t.Errorf("%s: %d bytes %.40q, %d, not %d bytes %.40q", what, len(got), got, e, len(want), want)
	}
}

// wantSealFault asks that Seal answers the error want, and no bytes.
func wantSealFault(t *testing.T, what string, want api.Errno, n int, l ...string) {
	t.Helper()
	if got, e := Seal(n, l...); got != "" || e != want {
		t.Errorf("%s: %d bytes %.40q, %d, not error %d", what, len(got), got, e, want)
	}
}

// wantOpen asks that Open answers want.
func wantOpen(t *testing.T, what, want, b string) {
	t.Helper()
	if got, e := Open(b); got != want || e != api.OK {
		t.Errorf("%s: %d bytes %.40q, %d, not %d bytes %.40q", what, len(got), got, e, len(want), want)
	}
}

// wantOpenFault asks that Open answers the error want, and no bytes.
func wantOpenFault(t *testing.T, what string, want api.Errno, b string) {
	t.Helper()
	if got, e := Open(b); got != "" || e != want {
		t.Errorf("%s: %d bytes %.40q, %d, not error %d", what, len(got), got, e, want)
	}
}

// P201: Of.

func TestP201Of(t *testing.T) {
	sums := []struct {
		l    []string
		want uint32
	}{
		{[]string{"1234", "56789"}, 0xcbf43926},
		{[]string{"123456789"}, 0xcbf43926},
		{[]string{"", "1", "", "23456789", ""}, 0xcbf43926},
		{nil, 0},
		{[]string{}, 0},
		{[]string{""}, 0},
		{[]string{"", ""}, 0},
		{[]string{"\x00"}, 0xd202ef8d},
		{[]string{"\x00\x00\x00\x00"}, 0x2144df1c},
		{[]string{"\xff\xff\xff\xff"}, 0xffffffff},
		{[]string{"a"}, 0xe8b7be43},
		{[]string{"abc"}, 0x352441c2},
	}
	for _, s := range sums {
		if got := Of(s.l...); got != s.want {
			t.Errorf("%q: %#x, not %#x", s.l, got, s.want)
		}
	}
}

func TestP201OfEachByte(t *testing.T) {
	for k := range 256 {
		b := []byte{byte(k)}
		if got, want := Of(string(b)), crc32.ChecksumIEEE(b); got != want {
			t.Errorf("byte %d: %#x, not %#x", k, got, want)
		}
	}
}

func TestP201OfOneBehindTheOther(t *testing.T) {
	b := sample.Bytes(300)
	want := crc32.ChecksumIEEE([]byte(b))
	for k := range len(b) + 1 {
		if got := Of(b[:k], b[k:]); got != want {
			t.Errorf("cut at %d: %#x, not %#x", k, got, want)
		}
		if got, want := Of(b[:k]), crc32.ChecksumIEEE([]byte(b[:k])); got != want {
			t.Errorf("%d bytes: %#x, not %#x", k, got, want)
		}
	}
	if got := Of(strings.Split(b, "")...); got != want {
		t.Errorf("cut into runes: %#x, not %#x", got, want)
	}
	if Of("ab", "c") == Of("c", "ab") {
		t.Error("the order of the texts does not count")
	}
}

// P201: Seal.

func TestP201Seal(t *testing.T) {
	body := "abc" + strings.Repeat("\x00", 13)
	wantSeal(t, "just full", "123456789\x26\x39\xf4\xcb", 13, "1234", "56789")
	wantSeal(t, "zero bytes", body+sum(body), 20, "abc")
	wantSeal(t, "several", body+sum(body), 20, "a", "", "bc")
	wantSeal(t, "in order", "ba"+sum("ba"), 6, "b", "a")
	wantSeal(t, "zero bytes of its own", body+sum(body), 20, body)
	wantSeal(t, "not runes", "\xff\x80"+sum("\xff\x80"), 6, "\xff", "\x80")
	full := sample.Bytes(api.Sector - 4)
	wantSeal(t, "a sector", full+sum(full), api.Sector, full[:100], full[100:])
}

func TestP201SealEdges(t *testing.T) {
	zero := strings.Repeat("\x00", 65536)
	wantSeal(t, "4 of none", "\x00\x00\x00\x00", 4)
	wantSeal(t, "4 of an empty one", "\x00\x00\x00\x00", 4, "")
	wantSeal(t, "4 of empty ones", "\x00\x00\x00\x00", 4, "", "")
	wantSeal(t, "5 of none", "\x00\x8d\xef\x02\xd2", 5)
	wantSeal(t, "5 of a byte", "a\x43\xbe\xb7\xe8", 5, "a")
	wantSeal(t, "8 of empty ones", "\x00\x00\x00\x00\x1c\xdf\x44\x21", 8, "", "")
	wantSeal(t, "65,536 of none", zero[:65532]+sum(zero[:65532]), 65536)
	wantSeal(t, "65,536 of a byte", "a"+zero[:65531]+sum("a"+zero[:65531]), 65536, "a")
	full := sample.Bytes(65532)
	wantSeal(t, "65,536, full", full+sum(full), 65536, full)
	wantSeal(t, "65,536, full of several", full+sum(full), 65536, full[:1], full[1:65531], full[65531:])
}

func TestP201SealWrong(t *testing.T) {
	for _, n := range []int{3, 2, 1, 0, -1, -5, math.MinInt64, math.MinInt64 + 3, 65537, 65540, 65541, math.MaxInt64} {
		wantSealFault(t, "an n that can't be", api.ErrArg, n)
		wantSealFault(t, "an n that can't be, of texts", api.ErrArg, n, "", "ab")
		wantSealFault(t, "an n that can't be, of a long text", api.ErrArg, n, strings.Repeat("x", 70000))
	}
	wantSealFault(t, "4 of a byte", api.ErrLong, 4, "a")
	wantSealFault(t, "4 of a byte behind others", api.ErrLong, 4, "", "", "a")
	wantSealFault(t, "one byte too many", api.ErrLong, 13, "123456789a")
	wantSealFault(t, "one byte too many of several", api.ErrLong, 13, "1234", "56789", "a")
	wantSealFault(t, "a zero byte too many", api.ErrLong, 6, "ab\x00")
	wantSealFault(t, "n bytes", api.ErrLong, 13, "123456789abcd")
	full := sample.Bytes(65533)
	wantSealFault(t, "65,536, one byte too many", api.ErrLong, 65536, full)
	wantSealFault(t, "65,536, one byte too many of several", api.ErrLong, 65536, full[:65532], full[65532:])
	wantSealFault(t, "far too many", api.ErrLong, 65536, slices.Repeat([]string{full}, 1000)...)
}

func TestP201SealKeepsWhatWasHandedIn(t *testing.T) {
	l := []string{"a", "", "bc", "d"}
	if _, e := Seal(20, l[:3]...); e != api.OK {
		t.Fatal(e)
	}
	Of(l[:2]...)
	if !slices.Equal(l, []string{"a", "", "bc", "d"}) {
		t.Errorf("what was handed in is now %q", l)
	}
}

// P201: Open.

func TestP201Open(t *testing.T) {
	wantOpen(t, "nine bytes", "123456789", "123456789\x26\x39\xf4\xcb")
	wantOpen(t, "zero bytes, too", "abc\x00\x00", "abc\x00\x00"+sum("abc\x00\x00"))
	wantOpen(t, "zero bytes alone", "\x00", "\x00\x8d\xef\x02\xd2")
	wantOpen(t, "just 4 bytes", "", "\x00\x00\x00\x00")
	wantOpen(t, "5 bytes", "a", "a\x43\xbe\xb7\xe8")
	wantOpen(t, "not runes", "\xff\x80", "\xff\x80"+sum("\xff\x80"))
	long := sample.Bytes(70000)
	wantOpen(t, "more than Seal lays", long, long+sum(long))
}

func TestP201OpenWrong(t *testing.T) {
	for _, b := range []string{"", "a", "\x00", "\x00\x00", "abc", "\x00\x00\x00"} {
		wantOpenFault(t, "fewer than 4 bytes", api.ErrShort, b)
	}
	wantOpenFault(t, "4 bytes that are not the sum of none", api.ErrSum, "\x01\x00\x00\x00")
	wantOpenFault(t, "4 bytes of text", api.ErrSum, "abcd")
	wantOpenFault(t, "another's sum", api.ErrSum, "123456788\x26\x39\xf4\xcb")
	wantOpenFault(t, "the highest byte first", api.ErrSum, "123456789\xcb\xf4\x39\x26")
	wantOpenFault(t, "a sum of zero", api.ErrSum, "123456789\x00\x00\x00\x00")
	wantOpenFault(t, "zero bytes", api.ErrSum, strings.Repeat("\x00", api.Sector))
	wantOpenFault(t, "a byte less", api.ErrSum, "123456789\x26\x39\xf4")
	wantOpenFault(t, "a byte less ahead", api.ErrSum, "23456789\x26\x39\xf4\xcb")
	wantOpenFault(t, "a byte more", api.ErrSum, "123456789\x26\x39\xf4\xcbx")
	wantOpenFault(t, "a zero byte more", api.ErrSum, "123456789\x26\x39\xf4\xcb\x00")
	wantOpenFault(t, "bytes in another order", api.ErrSum, "213456789\x26\x39\xf4\xcb")
}

// P202: what was sealed is opened; with one byte changed it is not.

func TestP202WhatWasSealedIsOpened(t *testing.T) {
	for _, n := range []int{4, 5, 8, 20, api.Sector, 1000, 65535, 65536} {
		for _, size := range []int{0, 1, (n - 4) / 2, n - 5, n - 4} {
			if size < 0 || size > n-4 {
				continue
			}
			b := sample.Bytes(size)
			s, e := Seal(n, b[:size/3], b[size/3:])
			if e != api.OK || len(s) != n {
				t.Fatalf("%d of %d bytes: %d bytes, %d", n, size, len(s), e)
			}
			wantOpen(t, "sealed", b+strings.Repeat("\x00", n-4-size), s)
		}
	}
}

func TestP202EachByteChanged(t *testing.T) {
	for _, n := range []int{4, 5, 20, api.Sector} {
		s, e := Seal(n, sample.Bytes((n-4)/2))
		if e != api.OK {
			t.Fatal(n, e)
		}
		b := []byte(s)
		for k := range b {
			for by := 1; by < 256; by++ {
				b[k] ^= byte(by)
				if got, e := Open(string(b)); got != "" || e != api.ErrSum {
					t.Errorf("%d bytes, byte %d changed by %d: %.40q, %d", n, k, by, got, e)
				}
				b[k] ^= byte(by)
			}
		}
		if _, e := Open(string(b)); e != api.OK {
			t.Errorf("%d bytes, changed back: %d", n, e)
		}
	}
}

func TestP202ByteChangedInTheLongest(t *testing.T) {
	s, e := Seal(65536, sample.Bytes(60000))
	if e != api.OK {
		t.Fatal(e)
	}
	b := []byte(s)
	for _, k := range []int{0, 1, 255, 256, 32767, 59999, 60000, 65531, 65532, 65533, 65534, 65535} {
		for _, by := range []byte{1, 128, 255} {
			b[k] ^= by
			wantOpenFault(t, "changed", api.ErrSum, string(b))
			b[k] ^= by
		}
	}
}
