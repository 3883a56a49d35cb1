// Package bits lays numbers and texts into bytes, the lowest byte first.
package bits

import (
	"math"
	"strings"

	"masonry/api"
)

const (
	maxText = 65535 // bytes of a text: what its length, a Half, can tell
	maxPad  = 65536 // bytes that Pad fills up to
)

// Out lays things one behind the other; a zero one is ready.
type Out struct {
	last *part
	size int
	err  api.Errno
}

// part is what one call laid. It is never changed again, so that an Out and a copy of it, which share what was laid ahead, lay on without touching each other.
type part struct {
	ahead *part
	bytes string
}

// Byte lays numbers in a byte each.
func (o *Out) Byte(l ...int) *Out { return o.numbers(1, l) }

// Half lays numbers in two bytes each.
func (o *Out) Half(l ...int) *Out { return o.numbers(2, l) }

// Word lays numbers in four bytes each.
func (o *Out) Word(l ...int) *Out { return o.numbers(4, l) }

// Long lays numbers in eight bytes each.
func (o *Out) Long(l ...int) *Out { return o.numbers(8, l) }

// Text lays texts and their lengths.
func (o *Out) Text(l ...string) *Out {
	var b strings.Builder
	for _, s := range l {
		if len(s) > maxText {
			return o.fail(api.ErrLong)
		}
		b.WriteByte(byte(len(s)))
		b.WriteByte(byte(len(s) >> 8))
		b.WriteString(s)
	}
	return o.lay(b.String())
}

// Raw lays bytes.
func (o *Out) Raw(l ...string) *Out {
	var b strings.Builder // not strings.Join: of one text that answers the text itself, which is not to be kept
	for _, s := range l {
		b.WriteString(s)
	}
	return o.lay(b.String())
}

// Pad lays zero bytes up to a length.
func (o *Out) Pad(n int) *Out {
	switch {
	case o == nil:
		return nil
	case n < 0 || n > maxPad:
		return o.fail(api.ErrArg)
	case o.size > n:
		return o.fail(api.ErrLong)
	}
	return o.lay(strings.Repeat("\x00", n-o.size))
}

// End tells the bytes.
func (o *Out) End() (string, api.Errno) {
	if o == nil {
		return "", api.ErrArg
	}
	if o.err != api.OK {
		return "", o.err
	}
	b := make([]byte, o.size)
	at := o.size
	for p := o.last; p != nil; p = p.ahead {
		at -= len(p.bytes)
		copy(b[at:], p.bytes)
	}
	return string(b), api.OK
}

// numbers lays each of l in size bytes.
func (o *Out) numbers(size int, l []int) *Out {
	b := make([]byte, 0, size*len(l))
	for _, n := range l {
		if n < 0 || n>>(8*size) != 0 {
			return o.fail(api.ErrArg)
		}
		for k := range size {
			b = append(b, byte(n>>(8*k)))
		}
	}
	return o.lay(string(b))
}

// lay puts b behind all that was laid.
func (o *Out) lay(b string) *Out {
	if o == nil || o.err != api.OK || b == "" {
		return o
	}
	o.last = &part{o.last, b}
	o.size += len(b)
	return o
}

// fail keeps the first error; what was laid ahead of it is asked by nobody any more.
func (o *Out) fail(e api.Errno) *Out {
	if o != nil && o.err == api.OK {
		*o = Out{err: e}
	}
	return o
}

// In reads from the front on what an Out lays.
type In struct {
	b   string // what is left; nothing behind an error
	err api.Errno
}

// On makes a reader.
func On(b string) *In { return &In{b: strings.Clone(b)} }

// Byte reads a byte.
func (i *In) Byte() int { return i.number(1) }

// Half reads a number of two bytes.
func (i *In) Half() int { return i.number(2) }

// Word reads a number of four bytes.
func (i *In) Word() int { return i.number(4) }

// Long reads a number of eight bytes.
func (i *In) Long() int { return i.number(8) }

// Text reads a text.
func (i *In) Text() string { return i.Raw(i.Half()) }

// Raw reads bytes.
func (i *In) Raw(n int) string {
	b, _ := i.take(n)
	return strings.Clone(b)
}

// Left tells how many bytes are left.
func (i *In) Left() int {
	if i == nil {
		return 0
	}
	return len(i.b)
}

// Rest tells whether all that is left is zero bytes.
func (i *In) Rest() bool {
	return i != nil && i.err == api.OK && strings.TrimLeft(i.b, "\x00") == ""
}

// End tells whether all was read, but for zero bytes.
func (i *In) End() api.Errno {
	if i == nil {
		return api.ErrArg
	}
	if !i.Rest() {
		i.fail(api.ErrForm)
	}
	return i.err
}

// number reads a number of size bytes.
func (i *In) number(size int) int {
	b, ok := i.take(size)
	if !ok {
		return 0
	}
	var n uint64
	for k := range size {
		n |= uint64(b[k]) << (8 * k)
	}
	if n > math.MaxInt64 {
		i.fail(api.ErrForm)
		return 0
	}
	return int(n)
}

// take reads n bytes, and tells whether they were there.
func (i *In) take(n int) (string, bool) {
	switch {
	case i == nil || i.err != api.OK:
		return "", false
	case n < 0:
		i.fail(api.ErrArg)
		return "", false
	case n > len(i.b):
		i.fail(api.ErrShort)
		return "", false
	}
	b := i.b[:n]
	i.b = i.b[n:]
	return b, true
}

// fail keeps the first error; behind it nothing is left.
func (i *In) fail(e api.Errno) {
	if i.err == api.OK {
		*i = In{err: e}
	}
}
