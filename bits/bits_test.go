package bits

import (
	"math"
	"strings"
	"testing"

	"masonry/api"
)

// laid tells what f lays in a zero Out, and the error.
func laid(f func(o *Out)) (string, api.Errno) {
	var o Out
	f(&o)
	return o.End()
}

// wantLaid holds what f lays against want.
func wantLaid(t *testing.T, what, want string, f func(o *Out)) {
	t.Helper()
	if got, e := laid(f); got != want || e != api.OK {
		t.Errorf("%s: %q, %d, not %q", what, got, e, want)
	}
}

// wantFault asks that f ends with the error want, and with no bytes.
func wantFault(t *testing.T, what string, want api.Errno, f func(o *Out)) {
	t.Helper()
	if got, e := laid(f); got != "" || e != want {
		t.Errorf("%s: %q, %d, not error %d", what, got, e, want)
	}
}

// P101: what is laid.

func TestP101Numbers(t *testing.T) {
	wantLaid(t, "nothing", "", func(o *Out) {})
	wantLaid(t, "no numbers", "", func(o *Out) { o.Byte().Half().Word().Long() })
	wantLaid(t, "bytes", "\x00\x01\xff", func(o *Out) { o.Byte(0, 1, 255) })
	wantLaid(t, "halves", "\x00\x00\x02\x01\xff\xff", func(o *Out) { o.Half(0, 258, 65535) })
	wantLaid(t, "words", "\x04\x03\x02\x01\xff\xff\xff\xff", func(o *Out) { o.Word(0x01020304, math.MaxUint32) })
	wantLaid(t, "longs", "\x08\x07\x06\x05\x04\x03\x02\x01\xff\xff\xff\xff\xff\xff\xff\x7f\x00\x00\x00\x00\x00\x00\x00\x00", func(o *Out) { o.Long(0x0102030405060708, math.MaxInt64, 0) })
	wantLaid(t, "in order", "\x01\x02\x00\x03\x00\x00\x00\x04\x00\x00\x00\x00\x00\x00\x00", func(o *Out) { o.Byte(1).Half(2).Word(3).Long(4) })
}

func TestP101NumbersThatDoNotFit(t *testing.T) {
	wantFault(t, "byte 256", api.ErrArg, func(o *Out) { o.Byte(256) })
	wantFault(t, "half 65536", api.ErrArg, func(o *Out) { o.Half(65536) })
	wantFault(t, "word 2^32", api.ErrArg, func(o *Out) { o.Word(1 << 32) })
	wantFault(t, "byte 2^63-1", api.ErrArg, func(o *Out) { o.Byte(math.MaxInt64) })
	wantFault(t, "the last one", api.ErrArg, func(o *Out) { o.Byte(1, 2, 256) })
	wantFault(t, "one between", api.ErrArg, func(o *Out) { o.Half(1, -1, 2) })
	for _, n := range []int{-1, math.MinInt64} {
		wantFault(t, "byte below 0", api.ErrArg, func(o *Out) { o.Byte(n) })
		wantFault(t, "half below 0", api.ErrArg, func(o *Out) { o.Half(n) })
		wantFault(t, "word below 0", api.ErrArg, func(o *Out) { o.Word(n) })
		wantFault(t, "long below 0", api.ErrArg, func(o *Out) { o.Long(n) })
	}
}

func TestP101Texts(t *testing.T) {
	long := strings.Repeat("x", 65535)
	wantLaid(t, "example", "\x02\x01\x01\x00\x01\x00a", func(o *Out) { o.Half(258, 1).Text("a") })
	wantLaid(t, "texts", "\x00\x00\x02\x00bc\x01\x00\xff", func(o *Out) { o.Text("", "bc", "\xff") })
	wantLaid(t, "no texts", "", func(o *Out) { o.Text() })
	wantLaid(t, "258 bytes", "\x02\x01"+long[:258], func(o *Out) { o.Text(long[:258]) })
	wantLaid(t, "65,535 bytes", "\xff\xff"+long, func(o *Out) { o.Text(long) })
	wantFault(t, "65,536 bytes", api.ErrLong, func(o *Out) { o.Text(long + "x") })
	wantFault(t, "65,536 bytes behind others", api.ErrLong, func(o *Out) { o.Text("a", long+"x", "b") })
	wantLaid(t, "raw", "abc", func(o *Out) { o.Raw("a", "", "bc").Raw().Raw("") })
	wantLaid(t, "long raw", long+"xx", func(o *Out) { o.Raw(long, "xx") })
}

func TestP101Pad(t *testing.T) {
	zero := strings.Repeat("\x00", 65536)
	wantLaid(t, "pad", "ab\x00\x00\x00", func(o *Out) { o.Raw("ab").Pad(5) })
	wantLaid(t, "pad of nothing", "\x00\x00\x00", func(o *Out) { o.Pad(3) })
	wantLaid(t, "pad 0", "", func(o *Out) { o.Pad(0) })
	wantLaid(t, "pad of as many", "ab", func(o *Out) { o.Raw("ab").Pad(2) })
	wantLaid(t, "pad twice, and on", "a\x00\x00\x00b", func(o *Out) { o.Raw("a").Pad(2).Pad(4).Raw("b") })
	wantLaid(t, "pad 65,536", "\x01"+zero[1:], func(o *Out) { o.Byte(1).Pad(65536) })
	wantFault(t, "pad -1", api.ErrArg, func(o *Out) { o.Pad(-1) })
	wantFault(t, "pad 65,537", api.ErrArg, func(o *Out) { o.Pad(65537) })
	wantFault(t, "pad of more", api.ErrLong, func(o *Out) { o.Raw("abc").Pad(2) })
	wantFault(t, "pad 0 of more", api.ErrLong, func(o *Out) { o.Byte(1).Pad(0) })
	wantFault(t, "pad -1 of more", api.ErrArg, func(o *Out) { o.Raw("a").Pad(-1) })
	wantFault(t, "pad 65,537 of more", api.ErrArg, func(o *Out) { o.Raw(zero, zero).Pad(65537) })
}

func TestP101FirstErrorStays(t *testing.T) {
	long := strings.Repeat("x", 65536)
	wantFault(t, "ErrArg", api.ErrArg, func(o *Out) { o.Raw("ab").Byte(256).Text(long).Raw("abc").Pad(1) })
	wantFault(t, "ErrLong", api.ErrLong, func(o *Out) { o.Text(long).Byte(-1).Pad(-1) })
	var o Out
	o.Half(-1)
	for range 2 {
		if s, e := o.Byte(1).End(); s != "" || e != api.ErrArg {
			t.Errorf("behind an error: %q, %d", s, e)
		}
	}
}

func TestP101AnswersTheOut(t *testing.T) {
	for _, o := range []*Out{{}, new(Out).Byte(-1)} {
		for k, got := range []*Out{o.Byte(1), o.Half(1), o.Word(1), o.Long(1), o.Text("a"), o.Raw("a"), o.Pad(99), o.Byte(), o.Pad(-1)} {
			if got != o {
				t.Errorf("call %d answers another Out", k)
			}
		}
	}
}

func TestP101EndAndOn(t *testing.T) {
	o := new(Out).Raw("a")
	one, _ := o.End()
	again, _ := o.End()
	two, _ := o.Byte('b').End()
	if one != "a" || again != "a" || two != "ab" {
		t.Errorf("%q, %q, %q", one, again, two)
	}
	l := []int{1, 2}
	o.Byte(l...)
	l[0] = 9
	if s, _ := o.End(); s != "ab\x01\x02" {
		t.Errorf("what was handed in was kept: %q", s)
	}
}

func TestP101CopiesAreApart(t *testing.T) {
	one := new(Out).Byte(1, 2, 3)
	two := *one
	one.Byte(4)
	two.Byte(5)
	three := *one
	*one = two
	one.Byte(6)
	a, _ := one.End()
	b, _ := two.End()
	c, _ := three.End()
	if a != "\x01\x02\x03\x05\x06" || b != "\x01\x02\x03\x05" || c != "\x01\x02\x03\x04" {
		t.Errorf("%q, %q, %q", a, b, c)
	}
}

// P102: what is read.

// wantOver asks that i answers what it does behind the error want.
func wantOver(t *testing.T, what string, i *In, want api.Errno) {
	t.Helper()
	if i.Left() != 0 || i.Rest() {
		t.Errorf("%s: left %d, rest %v", what, i.Left(), i.Rest())
	}
	for range 2 {
		if n := i.Byte() + i.Half() + i.Word() + i.Long(); n != 0 {
			t.Errorf("%s: a number %d", what, n)
		}
		if s := i.Text() + i.Raw(0) + i.Raw(1) + i.Raw(-1); s != "" {
			t.Errorf("%s: a text %q", what, s)
		}
		if e := i.End(); e != want {
			t.Errorf("%s: error %d, not %d", what, e, want)
		}
	}
}

func TestP102ReadsWhatOutLays(t *testing.T) {
	b, e := new(Out).Byte(5, 255).Half(258).Word(math.MaxUint32).Long(math.MaxInt64, 7).Text("ab", "").Raw("cde").Pad(40).End()
	if e != api.OK {
		t.Fatal(e)
	}
	i := On(b)
	for k, n := range []int{i.Byte() - 5, i.Byte() - 255, i.Half() - 258, i.Word() - math.MaxUint32, i.Long() - math.MaxInt64, i.Long() - 7} {
		if n != 0 {
			t.Errorf("number %d is off by %d", k, n)
		}
	}
	if a, b, c, d := i.Text(), i.Text(), i.Raw(2), i.Raw(1); a != "ab" || b != "" || c != "cd" || d != "e" {
		t.Errorf("%q, %q, %q, %q", a, b, c, d)
	}
	if i.Left() != 40-33 || !i.Rest() || i.End() != api.OK {
		t.Errorf("left %d, rest %v, end %d", i.Left(), i.Rest(), i.End())
	}
}

func TestP102TheLowestByteFirst(t *testing.T) {
	i := On("\x01\x02\x03\x04\x05\x06\x07\x08\x09\x0a\x0b\x0c\x0d\x0e")
	if a, b, c := i.Half(), i.Word(), i.Long(); a != 0x0201 || b != 0x06050403 || c != 0x0e0d0c0b0a090807 {
		t.Errorf("%x, %x, %x", a, b, c)
	}
	if i.Left() != 0 || i.End() != api.OK {
		t.Errorf("left %d, end %d", i.Left(), i.End())
	}
}

func TestP102LeftRestEnd(t *testing.T) {
	i := On("a\x00b\x00\x00")
	if i.Left() != 5 || i.Rest() || i.Raw(0) != "" || i.Left() != 5 || i.Raw(3) != "a\x00b" || i.Left() != 2 || !i.Rest() {
		t.Error("what is left is told wrong")
	}
	if i.End() != api.OK || i.Left() != 2 || i.Raw(2) != "\x00\x00" || i.End() != api.OK || !i.Rest() {
		t.Error("an End that is OK took something away")
	}
	if none := On(""); none.Left() != 0 || !none.Rest() || none.End() != api.OK {
		t.Error("of no bytes something is left")
	}
	for _, b := range []string{"\x01\x00", "\x00\x00\x01", "0"} {
		i := On(b)
		if i.Rest() || i.Left() != len(b) {
			t.Errorf("%q: rest, left %d", b, i.Left())
		}
		if e := i.End(); e != api.ErrForm {
			t.Errorf("%q: end %d", b, e)
		}
		wantOver(t, "an End of "+b, i, api.ErrForm)
	}
}

func TestP102Short(t *testing.T) {
	reads := []struct {
		what string
		b    string
		read func(i *In)
	}{
		{"byte", "", func(i *In) { i.Byte() }},
		{"half", "a", func(i *In) { i.Half() }},
		{"word", "abc", func(i *In) { i.Word() }},
		{"long", "abcdefg", func(i *In) { i.Long() }},
		{"length", "\x00", func(i *In) { i.Text() }},
		{"text", "\x03\x00ab", func(i *In) { i.Text() }},
		{"raw", "abc", func(i *In) { i.Raw(4) }},
		{"much", "abc", func(i *In) { i.Raw(math.MaxInt64) }},
		{"second", "abcd", func(i *In) { i.Raw(3); i.Half() }},
	}
	for _, r := range reads {
		i := On(r.b)
		r.read(i)
		wantOver(t, r.what, i, api.ErrShort)
	}
}

func TestP102Wrong(t *testing.T) {
	for _, n := range []int{-1, math.MinInt64} {
		i := On("abc")
		if s := i.Raw(n); s != "" {
			t.Errorf("Raw(%d): %q", n, s)
		}
		wantOver(t, "raw below 0", i, api.ErrArg)
	}
	for _, b := range []string{"\x00\x00\x00\x00\x00\x00\x00\x80", "\xff\xff\xff\xff\xff\xff\xff\xffabc"} {
		i := On(b)
		if n := i.Long(); n != 0 {
			t.Errorf("Long of %q: %d", b, n)
		}
		wantOver(t, "a long above 2^63 - 1", i, api.ErrForm)
	}
	var zero In
	if zero.Left() != 0 || !zero.Rest() || zero.End() != api.OK {
		t.Error("a zero In is not one of no bytes")
	}
}

// P103: nil ones.

func TestP103NilOut(t *testing.T) {
	var o *Out
	for k, got := range []*Out{o.Byte(1), o.Half(1), o.Word(1), o.Long(1), o.Text("a"), o.Raw("a"), o.Pad(1), o.Byte(), o.Byte(-1), o.Text(strings.Repeat("x", 65536)), o.Pad(-1)} {
		if got != nil {
			t.Errorf("call %d: not nil", k)
		}
	}
	if s, e := o.Byte(1).Raw("a").Pad(3).End(); s != "" || e != api.ErrArg {
		t.Errorf("%q, %d", s, e)
	}
}

func TestP103NilIn(t *testing.T) {
	var i *In
	wantOver(t, "nil", i, api.ErrArg)
	if i.Byte() != 0 || i.Half() != 0 || i.Word() != 0 || i.Long() != 0 || i.Text() != "" || i.Raw(1) != "" {
		t.Error("a nil In answers something")
	}
}
