package disk

import (
	"math"
	"slices"
	"strings"
	"testing"
	"unsafe"

	"masonry/api"
	"masonry/sample"
)

const last = api.Least - 1 // the last sector of the disks that most tests have

// made tells a new disk of n sectors.
func made(t *testing.T, n int) *Disk {
	t.Helper()
	d, e := New(n)
	if d == nil || e != api.OK {
		t.Fatalf("New(%d): %v, %d", n, d, e)
	}
	return d
}

// least tells a new disk of the fewest sectors.
func least(t *testing.T) *Disk {
	t.Helper()
	return made(t, api.Least)
}

var full, put = sample.Full, sample.Put

// puts tells a write of each byte of text, in the sectors 0 and on.
func puts(text string) []api.Write {
	var l []api.Write
	for at := range len(text) {
		l = append(l, put(at, text[at]))
	}
	return l
}

// outside tells numbers that are no sector of a disk of n.
func outside(n int) []int {
	return []int{-1, -2, -n, n, n + 1, 2 * n, 1<<32 + 1, -1 << 32, math.MaxInt, math.MaxInt - 1, math.MinInt, math.MinInt + 1}
}

// misfits tells lengths that no sector has.
func misfits() []int { return []int{0, 1, 128, 254, 255, 257, 258, 511, 512, 65536, 65536 + 256} }

// want asks that an error is the one that is wanted.
func want(t *testing.T, what string, want, got api.Errno) {
	t.Helper()
	if got != want {
		t.Errorf("%s: %d, not %d", what, got, want)
	}
}

// wantSector asks that the sector at has data.
func wantSector(t *testing.T, what string, d *Disk, at int, data string) {
	t.Helper()
	if got, e := d.Read(at); got != data || e != api.OK {
		t.Errorf("%s: sector %d: %d bytes %.8q, %d, not %.8q", what, at, len(got), got, e, data)
	}
}

// wantFault asks that reading the sector at answers the error want, and nothing.
func wantFault(t *testing.T, what string, d *Disk, at int, want api.Errno) {
	t.Helper()
	if got, e := d.Read(at); got != "" || e != want {
		t.Errorf("%s: sector %d: %d bytes %.8q, %d, not error %d", what, at, len(got), got, e, want)
	}
}

// wantDisk asks that the first sectors are of the bytes of text (0: of zero bytes), and all others of zero bytes.
func wantDisk(t *testing.T, what string, d *Disk, text string) {
	t.Helper()
	for at := range d.Size() {
		b := byte('0')
		if at < len(text) {
			b = text[at]
		}
		if b == '0' {
			b = 0
		}
		wantSector(t, what, d, at, full(b))
	}
}

// wantCounts asks whether there is power, and how many writes are not safe, and were.
func wantCounts(t *testing.T, what string, d *Disk, on bool, dirty, writes int) {
	t.Helper()
	if d.On() != on || d.Dirty() != dirty || d.Writes() != writes {
		t.Errorf("%s: %t, %d, %d, not %t, %d, %d", what, d.On(), d.Dirty(), d.Writes(), on, dirty, writes)
	}
}

// wantLost asks how many writes a Crash loses, and what is there when the power is back.
func wantLost(t *testing.T, what string, d *Disk, lost int, text string, keep ...int) {
	t.Helper()
	writes := d.Writes()
	if got := d.Crash(keep...); got != lost {
		t.Errorf("%s: Crash(%d): %d lost, not %d", what, keep, got, lost)
	}
	wantCounts(t, what, d, false, 0, writes)
	d.Restore()
	wantCounts(t, what, d, true, 0, writes)
	wantDisk(t, what, d, text)
}

// wantOff asks that a disk tells that it has no power, whatever is asked of it.
func wantOff(t *testing.T, what string, d *Disk) {
	t.Helper()
	writes := d.Writes()
	want(t, what+": Write", api.ErrOff, d.Write(put(0, 'x')))
	want(t, what+": Write of none", api.ErrOff, d.Write())
	want(t, what+": Write of several", api.ErrOff, d.Write(put(0, 'x'), put(1, 'x')))
	want(t, what+": Write of what can't be", api.ErrOff, d.Write(put(-1, 'x')))
	want(t, what+": Write of too few", api.ErrOff, d.Write(api.Write{At: 0, Data: "x"}))
	want(t, what+": Flush", api.ErrOff, d.Flush())
	for _, at := range append(outside(d.Size()), 0, d.Size()-1) {
		wantFault(t, what, d, at, api.ErrOff)
	}
	wantCounts(t, what, d, false, 0, writes)
}

// P701: New.

func TestP701New(t *testing.T) {
	for _, n := range []int{api.Least, api.Least + 1, 256, 1000, api.Sectors - 1, api.Sectors} {
		d := made(t, n)
		if d.Size() != n {
			t.Errorf("New(%d): %d sectors", n, d.Size())
		}
		wantCounts(t, "new", d, true, 0, 0)
		wantDisk(t, "new", d, "")
		wantLost(t, "new", d, 0, "", 1, 1)
	}
	if api.Least != 140 || api.Sectors != 2000 || api.Sector != 256 {
		t.Errorf("%d to %d sectors of %d bytes", api.Least, api.Sectors, api.Sector)
	}
}

func TestP701NewWrong(t *testing.T) {
	for _, n := range []int{139, 138, 1, 0, -1, -139, -140, -2000, 2001, 2002, 4000, 65536 + 140, 1<<32 + 140, -1<<32 + 140, math.MaxInt, math.MinInt} {
		if d, e := New(n); d != nil || e != api.ErrArg {
			t.Errorf("New(%d): %v, %d, not ErrArg", n, d, e)
		}
	}
}

func TestP701DisksAreApart(t *testing.T) {
	a, b := least(t), least(t)
	want(t, "Write", api.OK, a.Write(put(0, 'a')))
	want(t, "Flush", api.OK, a.Flush())
	want(t, "Write", api.OK, b.Write(put(1, 'b')))
	wantDisk(t, "the one", a, "a")
	wantDisk(t, "the other", b, "0b")
	wantCounts(t, "the one", a, true, 0, 1)
	wantCounts(t, "the other", b, true, 1, 1)
	a.Crash()
	if !b.On() {
		t.Error("the power of another disk went")
	}
}

// P701: Write, Read.

func TestP701Write(t *testing.T) {
	d := least(t)
	want(t, "one", api.OK, d.Write(put(3, 'a')))
	wantDisk(t, "one", d, "000a")
	want(t, "several", api.OK, d.Write(put(0, 'b'), put(2, 'c'), put(1, 'd')))
	wantDisk(t, "several", d, "bdca")
	wantCounts(t, "several", d, true, 4, 4)
	want(t, "over", api.OK, d.Write(put(3, 'e'), put(0, 'f')))
	wantDisk(t, "over", d, "fdce")
	want(t, "zero bytes", api.OK, d.Write(put(3, 0)))
	wantDisk(t, "zero bytes", d, "fdc")
	wantCounts(t, "zero bytes", d, true, 7, 7)
}

func TestP701WriteOfNone(t *testing.T) {
	d := least(t)
	for _, l := range [][]api.Write{nil, {}} {
		want(t, "none", api.OK, d.Write(l...))
	}
	want(t, "none", api.OK, d.Write())
	wantCounts(t, "none", d, true, 0, 0)
	wantDisk(t, "none", d, "")
}

func TestP701WriteEachSector(t *testing.T) {
	for _, n := range []int{api.Least, api.Least + 1, api.Sectors - 1, api.Sectors} {
		d := made(t, n)
		for at := range n {
			want(t, "each", api.OK, d.Write(put(at, byte(at%251+1))))
		}
		for at := range n {
			wantSector(t, "each", d, at, full(byte(at%251+1)))
		}
		wantCounts(t, "each", d, true, n, n)
	}
}

func TestP701WriteAndReadOutside(t *testing.T) {
	for _, n := range []int{api.Least, api.Least + 1, api.Sectors - 1, api.Sectors} {
		d := made(t, n)
		want(t, "the ends", api.OK, d.Write(put(0, 'a'), put(n-1, 'z')))
		for _, at := range outside(n) {
			want(t, "outside", api.ErrRange, d.Write(put(at, 'x')))
			wantFault(t, "outside", d, at, api.ErrRange)
		}
		wantSector(t, "the first", d, 0, full('a'))
		wantSector(t, "the last", d, n-1, full('z'))
		wantSector(t, "the second", d, 1, full(0))
		wantSector(t, "the last but one", d, n-2, full(0))
		wantCounts(t, "outside", d, true, 2, 2)
	}
}

func TestP701WriteOfAnotherLength(t *testing.T) {
	d := least(t)
	for _, n := range misfits() {
		for _, at := range []int{0, 1, last} {
			want(t, "another length", api.ErrArg, d.Write(api.Write{At: at, Data: sample.Bytes(n)}))
		}
	}
	want(t, "runes", api.ErrArg, d.Write(api.Write{At: 0, Data: strings.Repeat("\u20ac", api.Sector)}))
	wantCounts(t, "another length", d, true, 0, 0)
	wantDisk(t, "another length", d, "")
}

func TestP701WriteAnyBytes(t *testing.T) {
	d := least(t)
	rising := make([]byte, api.Sector)
	for k := range rising {
		rising[k] = byte(k)
	}
	l := []string{string(rising), sample.Bytes(api.Sector), full(255), strings.Repeat("\u00e4", 128), full(0)[1:] + "x", "x" + full(0)[1:]}
	for at, data := range l {
		want(t, "any bytes", api.OK, d.Write(api.Write{At: at, Data: data}))
	}
	for at, data := range l {
		wantSector(t, "any bytes", d, at, data)
	}
	want(t, "Flush", api.OK, d.Flush())
	d.Crash()
	d.Restore()
	for at, data := range l {
		wantSector(t, "any bytes, safe", d, at, data)
	}
}

func TestP701WriteRangeAheadOfLength(t *testing.T) {
	d := least(t)
	for _, at := range outside(api.Least) {
		for _, n := range misfits() {
			want(t, "both", api.ErrRange, d.Write(api.Write{At: at, Data: sample.Bytes(n)}))
		}
	}
}

func TestP701WriteUpToWhatCantBe(t *testing.T) {
	wrong := []struct {
		w    api.Write
		want api.Errno
	}{
		{put(-1, 'x'), api.ErrRange},
		{put(api.Least, 'x'), api.ErrRange},
		{api.Write{At: 9, Data: ""}, api.ErrArg},
		{api.Write{At: 9, Data: full('x')[1:]}, api.ErrArg},
		{api.Write{At: 9, Data: full('x') + "x"}, api.ErrArg},
		{api.Write{At: -1, Data: "short"}, api.ErrRange},
	}
	const text = "abcd"
	for _, x := range wrong {
		for k := range len(text) + 1 {
			d := least(t)
			l := slices.Insert(puts(text), k, x.w)
			want(t, "between", x.want, d.Write(l...))
			wantDisk(t, "between", d, text[:k])
			wantCounts(t, "between", d, true, k, k)
			want(t, "behind", api.OK, d.Write(put(k, 'e')))
			wantDisk(t, "behind", d, text[:k]+"e")
		}
	}
	d := least(t)
	want(t, "the first of two", api.ErrArg, d.Write(put(0, 'a'), api.Write{At: 1, Data: "short"}, put(-1, 'x')))
	want(t, "the first of two", api.ErrRange, d.Write(put(0, 'b'), put(-1, 'x'), api.Write{At: 1, Data: "short"}))
	wantDisk(t, "the first of two", d, "b")
}

func TestP701WriteSeveralTimes(t *testing.T) {
	d := least(t)
	want(t, "in one list", api.OK, d.Write(put(1, 'a'), put(0, 'b'), put(1, 'c'), put(1, 'd')))
	wantDisk(t, "in one list", d, "bd")
	wantCounts(t, "in one list", d, true, 4, 4)
	want(t, "the same again", api.OK, d.Write(put(1, 'd')))
	wantDisk(t, "the same again", d, "bd")
	wantCounts(t, "the same again", d, true, 5, 5)
}

func TestP701ReadChangesNothing(t *testing.T) {
	d := least(t)
	want(t, "Write", api.OK, d.Write(put(0, 'a'), put(0, 'b')))
	for range 3 {
		wantDisk(t, "again", d, "b")
	}
	wantCounts(t, "again", d, true, 2, 2)
}

func TestP701KeepsWhatWasHandedIn(t *testing.T) {
	d := least(t)
	l := append(puts("abcd"), api.Write{At: 2, Data: "short"}, put(-1, 'x'))
	had := slices.Clone(l)
	want(t, "with room behind", api.OK, d.Write(l[:2]...))
	want(t, "all", api.ErrArg, d.Write(l...))
	if !slices.Equal(l, had) {
		t.Error("what was handed in is another list now")
	}
	for k := range l {
		l[k] = put(k, 'x')
	}
	wantDisk(t, "the list changed", d, "abcd")
	wantLost(t, "the list changed", d, 4, "ab", 1, 1, 0, 0)
}

func TestP701SharesNoMemory(t *testing.T) {
	d := least(t)
	b := []byte(full('a'))
	want(t, "Write", api.OK, d.Write(api.Write{At: 0, Data: unsafe.String(&b[0], len(b))}))
	b[0] = 'x'
	wantDisk(t, "what was handed in has changed", d, "a")
	want(t, "Flush", api.OK, d.Flush())
	b[1] = 'x'
	wantLost(t, "what was handed in has changed", d, 0, "a")
	u := d.Twin()
	for _, at := range []int{0, 1, last} {
		one, _ := d.Read(at)
		two, _ := d.Read(at)
		three, _ := u.Read(at)
		four, _ := d.Read((at + 2) % api.Least)
		l := []*byte{unsafe.StringData(one), unsafe.StringData(two), unsafe.StringData(three), unsafe.StringData(four)}
		for k, p := range l {
			if slices.Contains(l[:k], p) {
				t.Errorf("sector %d: two answers share their memory", at)
			}
		}
	}
}

// P701: Flush.

func TestP701Flush(t *testing.T) {
	d := least(t)
	want(t, "of nothing", api.OK, d.Flush())
	wantCounts(t, "of nothing", d, true, 0, 0)
	want(t, "Write", api.OK, d.Write(put(0, 'a'), put(1, 'b'), put(0, 'c'), put(last, 'd')))
	wantCounts(t, "Write", d, true, 4, 4)
	want(t, "Flush", api.OK, d.Flush())
	want(t, "Flush again", api.OK, d.Flush())
	wantCounts(t, "Flush", d, true, 0, 4)
	wantSector(t, "Flush", d, 0, full('c'))
	wantSector(t, "Flush", d, last, full('d'))
	want(t, "zero bytes", api.OK, d.Write(put(last, 0)))
	want(t, "Flush", api.OK, d.Flush())
	wantLost(t, "safe", d, 0, "cb")
	wantLost(t, "safe, again", d, 0, "cb", 1, 0, 1)
}

func TestP701OffWithoutPower(t *testing.T) {
	d := least(t)
	want(t, "Write", api.OK, d.Write(put(0, 'a')))
	want(t, "Flush", api.OK, d.Flush())
	want(t, "Write", api.OK, d.Write(put(1, 'b')))
	d.Crash(1)
	wantOff(t, "behind a Crash", d)
	d.Restore()
	wantDisk(t, "nothing was done without power", d, "ab")
	wantCounts(t, "nothing was done without power", d, true, 0, 2)
}

// P702: Crash.

// crashed tells what is there behind a Crash of writes upon what is safe, and how many were lost.
func crashed(safe string, l []api.Write, keep []int) (string, int) {
	b, lost := []byte(safe), 0
	for k, w := range l {
		if k < len(keep) && keep[k]&1 == 1 {
			b[w.At] = w.Data[0]
		} else {
			lost++
		}
	}
	return string(b), lost
}

// patterns tells all lists of n numbers 0 and 1.
func patterns(n int) [][]int {
	l := [][]int{nil}
	for range n {
		var longer [][]int
		for _, p := range l {
			longer = append(longer, append(slices.Clone(p), 0), append(slices.Clone(p), 1))
		}
		l = longer
	}
	return l
}

func TestP702CrashEachPattern(t *testing.T) {
	lists := [][]api.Write{
		nil,
		puts("c"),
		puts("cdef"),
		{put(0, 'c'), put(2, 'd'), put(0, 'e'), put(3, 'f')},
		{put(1, 'c'), put(1, 'd'), put(1, 'e'), put(1, 'f'), put(1, 'c')},
		{put(3, 'c'), put(0, 'd'), put(3, 'e'), put(0, 'f'), put(2, 'g')},
	}
	for _, l := range lists {
		for n := range len(l) + 3 {
			for _, keep := range patterns(n) {
				d := least(t)
				want(t, "Write", api.OK, d.Write(puts("ab")...))
				want(t, "Flush", api.OK, d.Flush())
				want(t, "Write", api.OK, d.Write(l...))
				text, lost := crashed("ab00", l, keep)
				wantLost(t, "each pattern", d, lost, text, keep...)
				wantLost(t, "what was kept is safe", d, 0, text)
			}
		}
	}
}

func TestP702CrashKnown(t *testing.T) {
	known := []struct {
		keep []int
		lost int
		text string
	}{
		{nil, 4, "ab00"},
		{[]int{}, 4, "ab00"},
		{[]int{1}, 3, "cb00"},
		{[]int{0, 1}, 3, "abd0"},
		{[]int{0, 0, 1}, 3, "eb00"},
		{[]int{1, 0, 1}, 2, "eb00"},
		{[]int{0, 0, 0, 1}, 3, "ab0f"},
		{[]int{1, 1, 1, 1}, 0, "ebdf"},
		{[]int{0, 0, 0, 0, 1, 1, 1}, 4, "ab00"},
		{[]int{1, 1, 1, 1, 0, 0}, 0, "ebdf"},
		{[]int{0, 3, 2, -1}, 2, "abdf"},
		{[]int{2, 0, 5}, 3, "eb00"},
		{[]int{1, 0, 0, 7}, 2, "cb0f"},
	}
	for _, k := range known {
		d := least(t)
		want(t, "Write", api.OK, d.Write(puts("ab")...))
		want(t, "Flush", api.OK, d.Flush())
		want(t, "Write", api.OK, d.Write(put(0, 'c'), put(2, 'd'), put(0, 'e'), put(3, 'f')))
		wantDisk(t, "ahead", d, "ebdf")
		wantLost(t, "known", d, k.lost, k.text, k.keep...)
	}
}

func TestP702CrashExample(t *testing.T) {
	d := least(t)
	want(t, "Write", api.OK, d.Write(put(3, 'x')))
	d.Crash(1)
	d.Restore()
	wantDisk(t, "example", d, "000x")
}

func TestP702CrashEvenAndOdd(t *testing.T) {
	for _, n := range []int{0, 2, -2, 4, -4, 10, 100, 256, -256, math.MaxInt - 1, math.MinInt} {
		d := least(t)
		want(t, "Write", api.OK, d.Write(puts("ab")...))
		wantLost(t, "even", d, 1, "0b", n, 1)
	}
	for _, n := range []int{1, -1, 3, -3, 5, -5, 7, 101, -101, 255, 257, -257, math.MaxInt, math.MinInt + 1} {
		d := least(t)
		want(t, "Write", api.OK, d.Write(puts("ab")...))
		wantLost(t, "odd", d, 1, "a", n, 0)
	}
}

func TestP702CrashSinceTheLastFlush(t *testing.T) {
	d := least(t)
	want(t, "Write", api.OK, d.Write(puts("abc")...))
	want(t, "Flush", api.OK, d.Flush())
	want(t, "Write", api.OK, d.Write(put(0, 'd')))
	want(t, "what can't be", api.ErrRange, d.Write(put(-1, 'x'), put(1, 'x')))
	want(t, "Write", api.OK, d.Write(put(1, 'e'), put(2, 'f')))
	wantLost(t, "places count from the Flush on, writes alone", d, 2, "aec", 0, 1, 0, 1)
	want(t, "Write", api.OK, d.Write(puts("ghi")...))
	wantLost(t, "and from the Crash on", d, 2, "gec", 1)
}

func TestP702CrashWithoutPower(t *testing.T) {
	d := least(t)
	want(t, "Write", api.OK, d.Write(puts("ab")...))
	if got := d.Crash(1); got != 1 {
		t.Errorf("%d lost, not 1", got)
	}
	for _, keep := range [][]int{nil, {0}, {1}, {1, 1, 1}} {
		if got := d.Crash(keep...); got != 0 {
			t.Errorf("Crash(%d) without power: %d lost", keep, got)
		}
		wantOff(t, "twice", d)
	}
	d.Restore()
	wantDisk(t, "twice", d, "a")
	wantCounts(t, "twice", d, true, 0, 2)
}

func TestP702CrashWithoutPowerStaysArmed(t *testing.T) {
	d := least(t)
	d.Crash()
	d.Arm(1, 1, 1)
	d.Crash()
	d.Restore()
	want(t, "the first", api.OK, d.Write(put(0, 'a')))
	want(t, "the second", api.ErrOff, d.Write(put(1, 'b')))
	d.Restore()
	wantDisk(t, "kept by what was armed", d, "ab")
}

func TestP702CrashKeepsWhatWasHandedIn(t *testing.T) {
	d := least(t)
	want(t, "Write", api.OK, d.Write(puts("abc")...))
	keep := []int{1, 2, -3, 4}
	had := slices.Clone(keep)
	wantLost(t, "a list with room", d, 2, "a", keep[:2]...)
	want(t, "Write", api.OK, d.Write(puts("def")...))
	wantLost(t, "the list", d, 1, "d0f", keep...)
	if !slices.Equal(keep, had) {
		t.Errorf("what was handed in is now %d", keep)
	}
}

// P702: Restore.

func TestP702RestoreWithPower(t *testing.T) {
	d := least(t)
	want(t, "Write", api.OK, d.Write(puts("ab")...))
	d.Arm(1, 1)
	d.Restore()
	wantCounts(t, "with power", d, true, 2, 2)
	wantDisk(t, "with power", d, "ab")
	want(t, "still armed", api.OK, d.Write(put(2, 'c')))
	d.Restore()
	want(t, "still armed", api.ErrOff, d.Write(put(3, 'd')))
	d.Restore()
	d.Restore()
	wantDisk(t, "lost, but the first", d, "a")
}

func TestP702RestoreAndOn(t *testing.T) {
	d := least(t)
	text := ""
	for k := range 5 {
		b := byte('a' + k)
		want(t, "Write", api.OK, d.Write(put(k, b), put(20, b)))
		text += string(b)
		wantLost(t, "over and over", d, 1, text, 1)
	}
}

// P702: Arm.

// acts tells writes and Flushes, one by one: of a text a letter is a write of it in the next sector, a dot a Flush.
func acts(d *Disk, text string) (done int, e api.Errno) {
	at := 0
	for k := range len(text) {
		if text[k] == '.' {
			e = d.Flush()
		} else {
			e = d.Write(put(at, text[k]))
			at++
		}
		if e != api.OK {
			return k, e
		}
	}
	return len(text), api.OK
}

func TestP702ArmEachNumber(t *testing.T) {
	const text = "ab.cd..efg.h"
	for n := range len(text) + 3 {
		for _, kept := range []int{0, 1} {
			d := least(t)
			d.Arm(n, slices.Repeat([]int{kept}, 20)...)
			done, e := acts(d, text)
			if n >= len(text) {
				want(t, "all was done", api.OK, e)
				wantCounts(t, "all was done", d, true, 1, 8)
				continue
			}
			upTo := text[:n+1]
			if kept == 0 {
				upTo = text[:strings.LastIndex(text[:n], ".")+1]
			}
			want(t, "the power goes", api.ErrOff, e)
			if done != n {
				t.Errorf("Arm(%d): %d were done", n, done)
			}
			wantCounts(t, "the power goes", d, false, 0, len(strings.ReplaceAll(text[:n+1], ".", "")))
			wantOff(t, "the power went", d)
			d.Restore()
			wantDisk(t, "the power went", d, strings.ReplaceAll(upTo, ".", ""))
		}
	}
}

func TestP702ArmAtTheMidstOfAList(t *testing.T) {
	const text = "abcdef"
	for n := range len(text) {
		for _, keep := range patterns(n + 1) {
			d := least(t)
			d.Arm(n, keep...)
			want(t, "a list", api.ErrOff, d.Write(puts(text)...))
			wantCounts(t, "a list", d, false, 0, n+1)
			d.Restore()
			left, _ := crashed("000000", puts(text[:n+1]), keep)
			wantDisk(t, "a list", d, left)
		}
	}
	d := least(t)
	d.Arm(len(text), 1, 1, 1, 1, 1, 1, 1)
	want(t, "just all of it", api.OK, d.Write(puts(text)...))
	want(t, "and the next", api.ErrOff, d.Write(put(6, 'g'), put(7, 'h')))
	d.Restore()
	wantDisk(t, "and the next", d, text+"g")
}

func TestP702ArmAWriteCountsAsWritten(t *testing.T) {
	for _, kept := range []bool{true, false} {
		d := least(t)
		want(t, "Write", api.OK, d.Write(put(0, 'a')))
		want(t, "Flush", api.OK, d.Flush())
		keep, text := 0, "a"
		if kept {
			keep, text = 1, "b"
		}
		d.Arm(0, keep, 1-keep)
		want(t, "over what is safe", api.ErrOff, d.Write(put(0, 'b'), put(1, 'c')))
		wantCounts(t, "over what is safe", d, false, 0, 2)
		d.Restore()
		wantDisk(t, "over what is safe", d, text)
	}
}

func TestP702ArmAtAFlush(t *testing.T) {
	for _, keep := range patterns(4) {
		d := least(t)
		want(t, "Write", api.OK, d.Write(puts("ab")...))
		d.Arm(1, keep...)
		l := append(puts("ab"), put(0, 'c'))
		want(t, "Write", api.OK, d.Write(l[2]))
		want(t, "Flush", api.ErrOff, d.Flush())
		wantCounts(t, "Flush", d, false, 0, 3)
		d.Restore()
		text, _ := crashed("00", l, keep)
		wantDisk(t, "a Flush is not done, places count from the last one on", d, text)
	}
	d := least(t)
	d.Arm(2, 1)
	want(t, "of nothing", api.OK, d.Flush())
	want(t, "of nothing", api.OK, d.Flush())
	want(t, "of nothing", api.ErrOff, d.Flush())
	wantCounts(t, "of nothing", d, false, 0, 0)
}

func TestP702ArmCountsWhatIsDone(t *testing.T) {
	for n := range 3 {
		d := least(t)
		d.Arm(n, 1, 1, 1, 1)
		for range 5 {
			want(t, "no sector", api.ErrRange, d.Write(put(api.Least, 'x'), put(9, 'x')))
			want(t, "too few bytes", api.ErrArg, d.Write(api.Write{At: 0, Data: "x"}, put(9, 'x')))
			want(t, "none", api.OK, d.Write())
			wantSector(t, "Read", d, 0, full(0))
			wantFault(t, "Read", d, -1, api.ErrRange)
			d.Restore()
			d.Twin().Flush()
		}
		wantCounts(t, "none of them counts", d, true, 0, 0)
		want(t, "n more", api.OK, d.Write(puts("abc"[:n])...))
		want(t, "what can't be", api.ErrRange, d.Write(put(-1, 'x')))
		want(t, "the next one", api.ErrOff, d.Write(put(n, 'd'), put(-1, 'x')))
		d.Restore()
		wantDisk(t, "the next one", d, "abc"[:n]+"d")
	}
}

func TestP702ArmWhatCantBeInAList(t *testing.T) {
	d := least(t)
	d.Arm(1, 1, 1)
	want(t, "ahead of the next one", api.ErrArg, d.Write(put(0, 'a'), api.Write{At: 1, Data: ""}, put(1, 'x')))
	wantCounts(t, "ahead of the next one", d, true, 1, 1)
	want(t, "the next one, behind it", api.ErrOff, d.Write(put(1, 'b'), put(-1, 'x')))
	d.Restore()
	wantDisk(t, "the next one", d, "ab")
	d.Arm(1)
	want(t, "in its place", api.ErrRange, d.Write(put(2, 'c'), put(api.Least, 'x'), put(3, 'x')))
	wantCounts(t, "in its place", d, true, 1, 3)
	wantDisk(t, "in its place", d, "abc")
	want(t, "Flush", api.ErrOff, d.Flush())
}

func TestP702ArmAnew(t *testing.T) {
	d := least(t)
	d.Arm(0, 1)
	d.Arm(2, 0, 1, 0)
	want(t, "the later number", api.OK, d.Write(puts("ab")...))
	want(t, "the later number", api.ErrOff, d.Write(put(2, 'c')))
	d.Restore()
	wantDisk(t, "the later keep", d, "0b")
	d.Arm(5, 1, 1, 1)
	want(t, "Write", api.OK, d.Write(put(0, 'd')))
	d.Arm(0)
	want(t, "Write", api.ErrOff, d.Write(put(2, 'e')))
	d.Restore()
	wantDisk(t, "a keep of none", d, "0b")
}

func TestP702ArmBelowZero(t *testing.T) {
	for _, n := range []int{-1, -2, -100, -1 << 32, math.MinInt} {
		d := least(t)
		d.Arm(n, 1)
		want(t, "not armed", api.OK, d.Write(puts("ab")...))
		want(t, "not armed", api.OK, d.Flush())
		d.Arm(0, 1)
		d.Arm(n)
		want(t, "not armed any more", api.OK, d.Write(puts("cd")...))
		want(t, "not armed any more", api.OK, d.Flush())
		want(t, "not armed any more", api.OK, d.Flush())
		wantDisk(t, "not armed", d, "cd")
		wantCounts(t, "not armed", d, true, 0, 4)
	}
}

func TestP702ArmOfMany(t *testing.T) {
	for _, n := range []int{1000, 1 << 32, math.MaxInt - 1, math.MaxInt} {
		d := least(t)
		d.Arm(n)
		for k := range 500 {
			want(t, "many", api.OK, d.Write(put(k%api.Least, byte(k))))
			want(t, "many", api.OK, d.Flush())
		}
		if n == 1000 {
			want(t, "the next one", api.ErrOff, d.Flush())
		} else {
			want(t, "the next one", api.OK, d.Flush())
		}
	}
}

func TestP702NotArmedBehindACrash(t *testing.T) {
	for n := range 4 {
		d := least(t)
		want(t, "Write", api.OK, d.Write(puts("ab")...))
		d.Arm(n, 1, 1, 1)
		wantLost(t, "a Crash has its own keep", d, 1, "0b", 0, 1)
		for range n + 2 {
			want(t, "not armed", api.OK, d.Write(put(2, 'c')))
			want(t, "not armed", api.OK, d.Flush())
		}
	}
	d := least(t)
	d.Arm(0, 1)
	want(t, "armed", api.ErrOff, d.Write(put(0, 'a')))
	d.Restore()
	for range 3 {
		want(t, "once alone", api.OK, d.Write(put(1, 'b')))
		want(t, "once alone", api.OK, d.Flush())
	}
	wantDisk(t, "once alone", d, "ab")
}

func TestP702ArmWithoutPower(t *testing.T) {
	d := least(t)
	d.Crash()
	d.Arm(1, 1, 1)
	wantOff(t, "what is not done doesn't count", d)
	d.Restore()
	want(t, "one more", api.OK, d.Write(put(0, 'a')))
	want(t, "the next one", api.ErrOff, d.Write(put(1, 'b')))
	d.Arm(0, 1)
	d.Arm(-1)
	d.Restore()
	want(t, "not armed", api.OK, d.Write(put(2, 'c')))
	wantDisk(t, "not armed", d, "abc")
}

func TestP702ArmKeepsWhatWasHandedIn(t *testing.T) {
	d := least(t)
	keep := []int{1, 0, 1, 0}
	d.Arm(2, keep[:3]...)
	for k := range keep {
		if keep[k] != 1-k%2 {
			t.Errorf("what was handed in is now %d", keep)
		}
		keep[k] = k % 2
	}
	want(t, "Write", api.ErrOff, d.Write(puts("abc")...))
	d.Restore()
	wantDisk(t, "the list changed behind the call", d, "a0c")
	if !slices.Equal(keep, []int{0, 1, 0, 1}) {
		t.Errorf("what was handed in is now %d", keep)
	}
}

// P703.

func TestP703Counts(t *testing.T) {
	for _, n := range []int{api.Least, api.Sectors} {
		d := made(t, n)
		want(t, "Write", api.OK, d.Write(puts("ab")...))
		want(t, "Write", api.OK, d.Write(put(0, 'a')))
		wantCounts(t, "each write counts", d, true, 3, 3)
		want(t, "Flush", api.OK, d.Flush())
		wantCounts(t, "safe", d, true, 0, 3)
		want(t, "Write", api.OK, d.Write(puts("cde")...))
		d.Crash(1)
		wantCounts(t, "without power", d, false, 0, 6)
		d.Restore()
		wantCounts(t, "what was lost counts", d, true, 0, 6)
		d.Arm(1)
		want(t, "Write", api.ErrOff, d.Write(puts("cde")...))
		wantCounts(t, "so does what found the power going", d, false, 0, 8)
		if d.Size() != n {
			t.Errorf("%d sectors, not %d", d.Size(), n)
		}
	}
}

// lives tells disks, each at another point of its life.
func lives(t *testing.T) map[string]*Disk {
	t.Helper()
	l := map[string]*Disk{}
	life := func(name string, more func(d *Disk)) {
		d := least(t)
		want(t, name, api.OK, d.Write(puts("ab")...))
		want(t, name, api.OK, d.Flush())
		want(t, name, api.OK, d.Write(put(0, 'c'), put(2, 'd'), put(0, 'e')))
		more(d)
		l[name] = d
	}
	l["new"] = least(t)
	l["great"] = made(t, api.Sectors)
	l["zero"] = new(Disk)
	life("not safe", func(d *Disk) {})
	life("safe", func(d *Disk) { d.Flush() })
	life("without power", func(d *Disk) { d.Crash(0, 1) })
	life("power again", func(d *Disk) { d.Crash(0, 1); d.Restore() })
	life("armed at once", func(d *Disk) { d.Arm(0, 0, 1) })
	life("armed", func(d *Disk) { d.Arm(3, 1, 0, 0, 1) })
	life("armed, part of it done", func(d *Disk) { d.Arm(3, 1, 0, 0, 1); d.Write(put(3, 'f')) })
	life("armed without power", func(d *Disk) { d.Crash(); d.Arm(1, 1, 0) })
	return l
}

// life asks a disk all that it can tell, through writes, Flushes, the power going and back again.
func life(d *Disk) []any {
	var l []any
	look := func() {
		l = append(l, d.On(), d.Size(), d.Dirty(), d.Writes())
		for _, at := range []int{0, 1, 2, 3, 4, last} {
			s, e := d.Read(at)
			l = append(l, s, e)
		}
	}
	look()
	l = append(l, d.Write(put(1, 'v'), put(4, 'w')))
	look()
	l = append(l, d.Flush(), d.Write(put(1, 'x'), put(last, 'y'), put(0, 'z')))
	look()
	l = append(l, d.Crash(1, 0, 1))
	look()
	d.Restore()
	look()
	l = append(l, d.Write(put(2, 'q')), d.Flush())
	look()
	return l
}

// wantSame asks that two disks tell the same.
func wantSame(t *testing.T, what string, got, wanted []any) {
	t.Helper()
	if !slices.Equal(got, wanted) {
		t.Errorf("%s: %.80q, not %.80q", what, got, wanted)
	}
}

func TestP703TwinIsTheSame(t *testing.T) {
	again := lives(t)
	for name, d := range lives(t) {
		u := d.Twin()
		if u == nil || u == d {
			t.Fatalf("%s: no Twin", name)
		}
		v, wanted := u.Twin(), life(again[name])
		wantSame(t, name+", the Twin", life(u), wanted)
		wantSame(t, name+", its Twin behind that", life(v), wanted)
		wantSame(t, name+", the disk behind that", life(d), wanted)
	}
}

func TestP703TwinBehindTheDisk(t *testing.T) {
	again := lives(t)
	for name, d := range lives(t) {
		u, wanted := d.Twin(), life(again[name])
		wantSame(t, name+", the disk", life(d), wanted)
		wantSame(t, name+", the Twin behind that", life(u), wanted)
	}
}

func TestP703TwinIsApart(t *testing.T) {
	d := least(t)
	want(t, "Write", api.OK, d.Write(puts("ab")...))
	want(t, "Write", api.OK, d.Write(put(2, 'c')))
	u := d.Twin()
	want(t, "the Twin", api.OK, u.Write(put(3, 'u'), put(0, 'u')))
	want(t, "the disk", api.OK, d.Write(put(3, 'd'), put(1, 'd')))
	wantDisk(t, "the disk", d, "adcd")
	wantDisk(t, "the Twin", u, "ubcu")
	wantLost(t, "the Twin", u, 0, "ubcu", 1, 1, 1, 1, 1)
	wantCounts(t, "the disk has power", d, true, 5, 5)
	want(t, "the disk", api.OK, d.Flush())
	wantLost(t, "the disk", d, 0, "adcd")
	wantDisk(t, "the Twin", u, "ubcu")
	u.Arm(0, 1)
	want(t, "the disk is not armed", api.OK, d.Write(put(0, 'd')))
	d.Arm(-1)
	want(t, "the Twin is armed", api.ErrOff, u.Write(put(1, 'u')))
	u.Restore()
	wantDisk(t, "the Twin", u, "uucu")
	wantDisk(t, "the disk", d, "ddcd")
}

func TestP703TwinHasAListOfItsOwn(t *testing.T) {
	text := ""
	all := slices.Repeat([]int{1}, 30)
	for range 20 {
		d := least(t)
		want(t, "Write", api.OK, d.Write(puts(text)...))
		u := d.Twin()
		want(t, "the Twin", api.OK, u.Write(put(len(text), 'U')))
		want(t, "the disk", api.OK, d.Write(put(len(text), 'D')))
		v := d.Twin()
		want(t, "the disk", api.OK, d.Write(put(len(text)+1, 'D')))
		want(t, "its other Twin", api.OK, v.Write(put(len(text)+1, 'V')))
		wantLost(t, "the Twin", u, 0, text+"U", all...)
		wantLost(t, "the disk", d, 0, text+"DD", all...)
		wantLost(t, "its other Twin", v, 0, text+"DV", all...)
		text += string(rune('a' + len(text)))
	}
}

func TestP703TwinIsArmedApart(t *testing.T) {
	d := least(t)
	d.Arm(1, 1, 1)
	u := d.Twin()
	want(t, "the disk", api.OK, d.Flush())
	want(t, "the disk", api.ErrOff, d.Write(put(0, 'q')))
	want(t, "the Twin", api.OK, u.Write(put(0, 'u')))
	want(t, "the Twin", api.ErrOff, u.Write(put(1, 'v')))
	u.Restore()
	wantDisk(t, "the Twin", u, "uv")
	d.Restore()
	wantDisk(t, "the disk", d, "q")
}

func TestP703Nil(t *testing.T) {
	var d *Disk
	for range 2 {
		wantOff(t, "nil", d)
		wantCounts(t, "nil", d, false, 0, 0)
		for _, keep := range [][]int{nil, {0}, {1, 1}} {
			if got := d.Crash(keep...); got != 0 {
				t.Errorf("Crash of nil: %d", got)
			}
			for _, n := range []int{-1, 0, 1, math.MaxInt} {
				d.Arm(n, keep...)
			}
		}
		if d.Size() != 0 || d.Twin() != nil {
			t.Errorf("nil: %d sectors, Twin %v", d.Size(), d.Twin())
		}
		d.Restore()
	}
}

func TestP703Zero(t *testing.T) {
	d := new(Disk)
	wantOff(t, "zero", d)
	d.Restore()
	want(t, "no sector", api.ErrRange, d.Write(put(0, 'x')))
	wantFault(t, "no sector", d, 0, api.ErrRange)
	want(t, "nothing", api.OK, d.Flush())
	wantLost(t, "nothing", d, 0, "", 1)
	if d.Size() != 0 {
		t.Errorf("%d sectors", d.Size())
	}
}

// All of it, in any order, against a model.

// model is a disk as the chapter tells it: what is safe, and a list of what is not.
type model struct {
	safe   map[int]byte
	list   [][2]int // sectors and bytes
	on     bool
	writes int
	arm    int // below 0: not armed
	keep   []int
}

// read tells the byte that a sector has.
func (m *model) read(at int) byte {
	b := m.safe[at]
	for _, x := range m.list {
		if x[0] == at {
			b = byte(x[1])
		}
	}
	return b
}

// crash takes the power away.
func (m *model) crash(keep []int) int {
	if !m.on {
		return 0
	}
	lost := 0
	for k, x := range m.list {
		if k >= len(keep) || keep[k]&1 == 0 {
			lost++
			continue
		}
		m.safe[x[0]] = byte(x[1])
	}
	m.list, m.on, m.arm = nil, false, -1
	return lost
}

// goes tells whether the power goes at a write or a Flush.
func (m *model) goes() bool {
	if m.arm == 0 {
		m.crash(m.keep)
		return true
	}
	if m.arm > 0 {
		m.arm--
	}
	return false
}

// write writes a list.
func (m *model) write(l []api.Write) api.Errno {
	if !m.on {
		return api.ErrOff
	}
	for _, w := range l {
		if w.At < 0 || w.At >= api.Least {
			return api.ErrRange
		}
		if len(w.Data) != api.Sector {
			return api.ErrArg
		}
		m.list = append(m.list, [2]int{w.At, int(w.Data[0])})
		m.writes++
		if m.goes() {
			return api.ErrOff
		}
	}
	return api.OK
}

// flush makes all safe.
func (m *model) flush() api.Errno {
	if !m.on || m.goes() {
		return api.ErrOff
	}
	for _, x := range m.list {
		m.safe[x[0]] = byte(x[1])
	}
	m.list = nil
	return api.OK
}

// draw draws numbers out of bytes that look like nothing in particular.
type draw struct {
	b  string
	at int
}

func (r *draw) below(n int) int {
	r.at++
	return int(r.b[r.at%len(r.b)]) % n
}

func (r *draw) keep() []int {
	var l []int
	for range r.below(8) {
		l = append(l, r.below(9)-4)
	}
	return l
}

func (r *draw) writes() []api.Write {
	var l []api.Write
	for range r.below(6) {
		w := put(r.below(5), byte(r.below(256)))
		switch r.below(40) {
		case 0:
			w.At = -1 - r.below(3)
		case 1:
			w.At = api.Least + r.below(3)
		case 2:
			w.Data = w.Data[:r.below(256)]
		case 3:
			w.At = last
		}
		l = append(l, w)
	}
	return l
}

// both does the next thing with a disk and its model, and tells what either answers.
func both(r *draw, d *Disk, m *model) (string, int, int) {
	switch r.below(12) {
	case 0, 1, 2, 3, 4:
		l := r.writes()
		return "Write", int(d.Write(l...)), int(m.write(l))
	case 5, 6:
		return "Flush", int(d.Flush()), int(m.flush())
	case 7:
		keep := r.keep()
		return "Crash", d.Crash(keep...), m.crash(keep)
	case 8, 9:
		d.Restore()
		m.on = true
		return "Restore", 0, 0
	}
	n, keep := r.below(9)-1, r.keep()
	d.Arm(n, keep...)
	m.arm, m.keep = n, keep
	return "Arm", 0, 0
}

// wantModel asks that a disk tells what its model tells.
func wantModel(t *testing.T, what string, d *Disk, m *model) {
	t.Helper()
	wantCounts(t, what, d, m.on, len(m.list), m.writes)
	for _, at := range []int{0, 1, 2, 3, 4, 5, last} {
		if m.on {
			wantSector(t, what, d, at, full(m.read(at)))
		} else {
			wantFault(t, what, d, at, api.ErrOff)
		}
	}
}

func TestAgainstAModel(t *testing.T) {
	for round := range 60 {
		d, r := least(t), &draw{b: sample.Bytes(6000 + 7*round)}
		m := &model{safe: map[int]byte{}, on: true, arm: -1}
		for step := range 400 {
			if step%50 == 49 {
				other := d
				d = d.Twin()
				life(other)
			}
			what, got, wanted := both(r, d, m)
			if got != wanted {
				t.Errorf("round %d, step %d, %s: %d, not %d", round, step, what, got, wanted)
			}
			wantModel(t, what, d, m)
			if t.Failed() {
				t.Fatalf("round %d, step %d, %s", round, step, what)
			}
		}
	}
}
