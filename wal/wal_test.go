package wal

import (
	"hash/crc32"
	"math"
	"slices"
	"strings"
	"testing"
	"unsafe"

	"masonry/api"
	"masonry/disk"
	"masonry/head"
	"masonry/sample"
	"masonry/witness"
)

const (
	fewest = api.Least - 111   // home sectors of a disk of the fewest sectors
	most   = api.Sectors - 111 // of one of the most
)

var (
	full, put, other, misfits     = sample.Full, sample.Put, sample.Other, sample.Misfits
	choices, somes                = sample.Choices, sample.Somes
	made, lay, headed             = witness.Made, witness.Lay, witness.Headed
	look, homeOf, becomes, follow = witness.Look, witness.Home, witness.Becomes, witness.Follow
	redone, committed             = witness.Redone, witness.Committed
	want, wantSector, wantFault   = witness.Want, witness.WantSector, witness.WantFault
	wantCounts, wantSight         = witness.WantCounts, witness.WantSight
	wantActs, untouched           = witness.WantActs, witness.Untouched
)

// opened tells the Wal of a disk.
func opened(t *testing.T, d *disk.Disk) *Wal {
	t.Helper()
	w, e := Open(d)
	if w == nil || e != api.OK {
		t.Fatalf("Open: %v, %d", w, e)
	}
	return w
}

// least tells a new disk of the fewest sectors, and its Wal.
func least(t *testing.T) (*disk.Disk, *Wal) {
	t.Helper()
	d := made(t, api.Least)
	return d, opened(t, d)
}

// puts tells a write of each byte of text that is not '-', in the sectors from and on.
func puts(from int, text string) []api.Write {
	var l []api.Write
	for k := range len(text) {
		if text[k] != '-' {
			l = append(l, put(from+k, text[k]))
		}
	}
	return l
}

// many tells writes of n sectors from 0 on, no two of which are the same.
func many(n, salt int) []api.Write {
	l := make([]api.Write, n)
	for k := range l {
		l[k] = api.Write{At: k, Data: other(k, salt)}
	}
	return l
}

// fullHead tells a head that is Full.
func fullHead(seq int, targets ...int) head.Head {
	return head.Head{Seq: seq, Full: true, Targets: targets}
}

// outside tells numbers that are no home sector of n.
func outside(n int) []int {
	return []int{-1, -2, -110, -111, -112, -n, n, n + 1, n + 111, n + 1000, 1<<32 + 1, -1 << 32, math.MaxInt, math.MaxInt - 110, math.MaxInt - 111, math.MinInt, math.MinInt + 1}
}

// wantHome asks that the first home sectors are of the bytes of text (0: of zero bytes), and all others of zero bytes.
func wantHome(t *testing.T, what string, w *Wal, text string) {
	t.Helper()
	for at := range w.Size() {
		b := byte(0)
		if at < len(text) && text[at] != '0' {
			b = text[at]
		}
		wantSector(t, what, w, at, full(b))
	}
}

// wantNone asks that Open answers the error want, and no Wal.
func wantNone(t *testing.T, what string, want api.Errno, d *disk.Disk) {
	t.Helper()
	if w, e := Open(d); w != nil || e != want {
		t.Errorf("%s: Open: %v, %d, not error %d", what, w, e, want)
	}
}

// P901: Open.

func TestP901OpenNew(t *testing.T) {
	for _, n := range []int{api.Least, api.Least + 1, 221, 222, 1000, api.Sectors - 1, api.Sectors} {
		d := made(t, n)
		untouched(t, "Open of a new disk", d, func() {
			w := opened(t, d)
			wantCounts(t, "new", w, 0, true, 0)
			wantHome(t, "new", w, "")
		})
	}
	if home := int(Home); home != 111 {
		t.Errorf("Home: %d", home)
	}
}

func TestP901OpenWrong(t *testing.T) {
	wantNone(t, "nil", api.ErrArg, nil)
	off := made(t, api.Least)
	off.Crash()
	wantNone(t, "off", api.ErrOff, off)
	off.Restore()
	opened(t, off)
	junk := headed(t, api.Least, full('j'), "pq")
	junk.Crash()
	wantNone(t, "off, and no head", api.ErrOff, junk)
	junk.Restore()
	wantNone(t, "no head", api.ErrBroken, junk)
	bad := headed(t, api.Least, lay(t, fullHead(4, 1, fewest)), "pq")
	bad.Crash()
	wantNone(t, "off, and a Target that is no home sector", api.ErrOff, bad)
	wantNone(t, "a zero disk", api.ErrOff, new(disk.Disk))
}

func TestP901OpenDone(t *testing.T) {
	for _, seq := range []int{0, 1, 4, 255, 256, 1<<32 + 1, 1<<40 - 1, 1 << 40} {
		d := headed(t, api.Least, lay(t, head.Head{Seq: seq}), "pq")
		want(t, "Write", api.OK, d.Write(append(puts(111, "ab0d"), put(139, 'e'))...))
		untouched(t, "Open of a head that is Done", d, func() {
			w := opened(t, d)
			wantCounts(t, "Done", w, seq, true, 0)
			for at, b := range []byte("ab0d") {
				wantSector(t, "Done", w, at, full(b))
			}
			wantSector(t, "Done", w, fewest-1, full('e'))
		})
	}
}

func TestP901OpenFull(t *testing.T) {
	d := headed(t, api.Least, lay(t, fullHead(4, 1, 5)), "pq")
	w := opened(t, d)
	wantHome(t, "Full", w, "0p000q")
	wantCounts(t, "Full", w, 4, true, 0)
	if b, _ := d.Read(0); b != lay(t, head.Head{Seq: 4}) {
		t.Errorf("the head is %.24x", b)
	}
	want(t, "Commit", api.OK, w.Commit(put(2, 'r')))
	wantHome(t, "behind", w, "0pr00q")
	wantCounts(t, "behind", w, 5, true, 1)
	for _, seq := range []int{0, 1, 1 << 40} {
		d := headed(t, api.Least, lay(t, fullHead(seq, 0, 28)), "pqr")
		wantCounts(t, "Full", opened(t, d), seq, true, 0)
		untouched(t, "Open once more", d, func() {
			wantCounts(t, "once more", opened(t, d), seq, true, 0)
		})
	}
}

// TestP901OpenFullAll has as many Targets as there may be, the first and the last home sectors among them.
func TestP901OpenFullAll(t *testing.T) {
	for _, n := range []int{221, 222, 1000, api.Sectors} {
		size := n - 111
		d := made(t, n)
		var targets []int
		var home []api.Write
		for k := range api.MaxTx {
			at := k * (size - 1) / 109
			if at >= size || k > 0 && at <= targets[k-1] {
				t.Fatal(at)
			}
			targets = append(targets, at)
			home = append(home, api.Write{At: at, Data: other(k, n)})
			want(t, "Write", api.OK, d.Write(api.Write{At: 1 + k, Data: other(k, n)}))
		}
		want(t, "Write", api.OK, d.Write(api.Write{At: 0, Data: lay(t, fullHead(9, targets...))}))
		want(t, "Flush", api.OK, d.Flush())
		model := d.Twin()
		follow(model, redone(t, 9, home...))
		w := opened(t, d)
		wantSight(t, "Full", d, look(model))
		for k, x := range home {
			wantSector(t, "Full", w, targets[k], x.Data)
		}
		if targets[0] != 0 || targets[109] != size-1 {
			t.Error(targets)
		}
	}
}

func TestP901OpenActs(t *testing.T) {
	open := func(d *disk.Disk) api.Errno { _, e := Open(d); return e }
	d := headed(t, api.Least, lay(t, fullHead(4, 0, 1, 5, 28)), "pqrs")
	want(t, "Write", api.OK, d.Write(puts(111, "abcdef")...))
	want(t, "Flush", api.OK, d.Flush())
	wantActs(t, "Open of four", d, redone(t, 4, put(0, 'p'), put(1, 'q'), put(5, 'r'), put(28, 's')), choices(4), open)
	d = headed(t, api.Sectors, lay(t, fullHead(1, most-1)), "p")
	wantActs(t, "Open of one", d, redone(t, 1, put(most-1, 'p')), choices(1), open)
	d = headed(t, api.Sectors, lay(t, fullHead(1, 110, 111)), "pq")
	wantActs(t, "Open of those about Home", d, redone(t, 1, put(110, 'p'), put(111, 'q')), choices(2), open)
}

func TestP901OpenNoWalWithoutPower(t *testing.T) {
	d := headed(t, api.Least, lay(t, fullHead(4, 1, 5)), "pq")
	for n := range 5 {
		d.Arm(n)
		wantNone(t, "the power goes", api.ErrOff, d)
		wantNone(t, "it is gone", api.ErrOff, d)
		d.Restore()
	}
	wantHome(t, "at last", opened(t, d), "0p000q")
}

// sealed tells the sector of a body: zero bytes behind it, and the library's sum.
func sealed(body string) string {
	body += strings.Repeat("\x00", 252-len(body))
	x := crc32.ChecksumIEEE([]byte(body))
	return body + string([]byte{byte(x), byte(x >> 8), byte(x >> 16), byte(x >> 24)})
}

func TestP901OpenNoHead(t *testing.T) {
	zero := strings.Repeat("\x00", api.Sector)
	l := []string{full('j'), full(255), zero[:255] + "\x01", "\x07" + zero[1:], sealed(""), sealed("\x06"), sealed("\x07\x02"), sealed("\x07\x01\x04"), sealed("\x07\x00\x04\x00\x00\x00\x00\x00\x00\x00\x01\x00\x03"), sample.Bytes(api.Sector)}
	for _, h := range []head.Head{{Seq: 4}, fullHead(4, 1, 5)} {
		b := lay(t, h)
		for k := range api.Sector {
			l = append(l, b[:k]+string([]byte{b[k] ^ 1})+b[k+1:], b[:k]+string([]byte{b[k] ^ 128})+b[k+1:])
		}
	}
	ok := sealed("\x07\x00\x04") // what is sealed here is a head, if it is one
	for _, b := range l {
		if (b == ok) || len(b) != api.Sector {
			t.Fatal(b)
		}
		d := headed(t, api.Least, b, "pq")
		untouched(t, "Open of no head", d, func() { wantNone(t, "no head", api.ErrBroken, d) })
	}
	opened(t, headed(t, api.Least, ok, "pq"))
}

func TestP901OpenTargets(t *testing.T) {
	for _, n := range []int{api.Least, 200, 221, 222, 223, 400, api.Sectors - 1, api.Sectors} {
		size := n - 111
		for _, at := range []int{0, 1, 28, 29, 109, 110, 111, 112, size - 2, size - 1, size, size + 1, n - 2, n - 1, n, n + 1, api.Sectors - 1} {
			for _, targets := range [][]int{{at}, {0, at}, {0, 1, 2, at}} {
				if h := fullHead(4, targets...); head.Valid(h) {
					d := headed(t, n, lay(t, h), "pqrs")
					if at < size {
						last := byte("pqrs"[len(targets)-1])
						wantSector(t, "a Target", opened(t, d), at, full(last))
					} else {
						untouched(t, "Open of no Target", d, func() { wantNone(t, "no home sector", api.ErrBroken, d) })
					}
				}
			}
		}
	}
}

// P901: Read.

func TestP901Read(t *testing.T) {
	for _, n := range []int{api.Least, 222, api.Sectors} {
		d := made(t, n)
		w := opened(t, d)
		size := n - 111
		for at := range size {
			want(t, "Write", api.OK, d.Write(api.Write{At: 111 + at, Data: other(at, n)}))
		}
		untouched(t, "Read", d, func() {
			for at := range size {
				wantSector(t, "Read", w, at, other(at, n))
			}
			for _, at := range outside(size) {
				wantFault(t, "Read", w, at, api.ErrRange)
			}
		})
		wantCounts(t, "Read", w, 0, true, 0)
	}
}

func TestP901ReadWithoutPower(t *testing.T) {
	d, w := least(t)
	want(t, "Commit", api.OK, w.Commit(puts(0, "abc")...))
	d.Crash()
	for _, at := range []int{0, 5, fewest - 1} {
		wantFault(t, "off", w, at, api.ErrOff)
	}
	for _, at := range outside(fewest) {
		wantFault(t, "off, but up", w, at, api.ErrRange)
	}
	wantCounts(t, "off", w, 1, true, 1)
	d.Restore()
	wantHome(t, "restored", w, "abc")
}

func TestP901ReadDown(t *testing.T) {
	d, w := least(t)
	d.Arm(0)
	want(t, "Commit", api.ErrOff, w.Commit(puts(0, "abc")...))
	for range 2 {
		for _, at := range append(outside(fewest), 0, 5, fewest-1) {
			wantFault(t, "not up", w, at, api.ErrOff)
		}
		d.Restore()
	}
}

// P902: Commit.

func TestP902Commit(t *testing.T) {
	d, w := least(t)
	want(t, "of two", api.OK, w.Commit(put(0, 'a'), put(5, 'b')))
	wantHome(t, "of two", w, "a0000b")
	want(t, "of one", api.OK, w.Commit(put(5, 'c')))
	wantHome(t, "of one", w, "a0000c")
	want(t, "of the last one", api.OK, w.Commit(put(fewest-1, 'd')))
	wantHome(t, "of the last one", w, "a0000c"+strings.Repeat("0", fewest-7)+"d")
	want(t, "of zero bytes", api.OK, w.Commit(put(0, 0), put(fewest-1, 0)))
	wantHome(t, "of zero bytes", w, "00000c")
	want(t, "of what is there", api.OK, w.Commit(put(5, 'c')))
	wantCounts(t, "all", w, 5, true, 5)
	again := opened(t, d)
	wantHome(t, "anew", again, "00000c")
	wantCounts(t, "anew", again, 5, true, 0)
	d.Crash()
	d.Restore()
	wantHome(t, "behind a loss of power", opened(t, d), "00000c")
}

func TestP902CommitData(t *testing.T) {
	d := made(t, api.Sectors)
	w := opened(t, d)
	for salt := range 20 {
		for at := 0; at < most; at += 100 {
			var l []api.Write
			for k := at; k < min(at+100, most); k++ {
				l = append(l, api.Write{At: k, Data: other(k, salt)})
			}
			slices.Reverse(l)
			want(t, "Commit", api.OK, w.Commit(l...))
		}
		if salt%7 == 0 {
			w = opened(t, d)
		}
		for at := range most {
			wantSector(t, "Commit", w, at, other(at, salt))
		}
	}
}

// lists tells lists of writes, and what is to be written of each: rising, each sector once.
func lists() [][2][]api.Write {
	return [][2][]api.Write{
		{puts(0, "x"), puts(0, "x")},
		{puts(28, "x"), puts(28, "x")},
		{puts(0, "xyz"), puts(0, "xyz")},
		{{put(3, 'x'), put(0, 'y'), put(28, 'z'), put(1, 'w')}, {put(0, 'y'), put(1, 'w'), put(3, 'x'), put(28, 'z')}},
		{{put(2, 'x'), put(1, 'y'), put(0, 'z')}, {put(0, 'z'), put(1, 'y'), put(2, 'x')}},
		{{put(0, 'x'), put(5, 'y'), put(0, 'z')}, {put(0, 'z'), put(5, 'y')}},
		{{put(7, 'x'), put(7, 'y'), put(7, 'z')}, puts(7, "z")},
		{{put(7, 'z'), put(7, 'y'), put(7, 'x')}, puts(7, "x")},
		{{put(4, 'a'), put(2, 'b'), put(4, 'c'), put(3, 'd'), put(2, 'e'), put(4, 'f')}, {put(2, 'e'), put(3, 'd'), put(4, 'f')}},
		{{put(4, 'a'), put(4, 0), put(5, 0)}, {put(4, 0), put(5, 0)}},
	}
}

// TestP902CommitActs asks for the order of what is written and flushed, and for how much there is of it.
func TestP902CommitActs(t *testing.T) {
	d, v := least(t)
	want(t, "Commit", api.OK, v.Commit(puts(0, "abcdefgh")...))
	for _, l := range lists() {
		wantActs(t, "Commit", d, committed(t, 2, l[1]...), choices(min(len(l[1]), 3)), func(d *disk.Disk) api.Errno {
			return opened(t, d).Commit(l[0]...)
		})
	}
}

func TestP902CommitCounts(t *testing.T) {
	for _, l := range lists() {
		d, w := least(t)
		want(t, "Commit", api.OK, w.Commit(l[0]...))
		if n := 2*len(l[1]) + 2; d.Writes() != n || d.Dirty() != 0 {
			t.Errorf("%d writes, %d not safe, not %d, 0", d.Writes(), d.Dirty(), n)
		}
	}
}

func TestP902CommitLast(t *testing.T) {
	for _, l := range lists() {
		d, w := least(t)
		model := d.Twin()
		want(t, "Commit", api.OK, w.Commit(l[0]...))
		follow(model, committed(t, 1, l[1]...))
		wantSight(t, "Commit", d, look(model))
		for _, x := range l[1] {
			wantSector(t, "the last one", w, x.At, x.Data)
		}
	}
}

func TestP902CommitNone(t *testing.T) {
	d, w := least(t)
	want(t, "Commit", api.OK, w.Commit(puts(0, "ab")...))
	untouched(t, "of none", d, func() {
		want(t, "of none", api.OK, w.Commit())
		want(t, "of none", api.OK, w.Commit([]api.Write{}...))
	})
	wantCounts(t, "of none", w, 1, true, 1)
	d.Crash()
	want(t, "of none without power", api.OK, w.Commit())
	wantCounts(t, "of none without power", w, 1, true, 1)
}

func TestP902CommitMaxTx(t *testing.T) {
	for _, n := range []int{221, 222, 400, api.Sectors} {
		size := n - 111
		d := made(t, n)
		w := opened(t, d)
		for k, l := range [][]api.Write{many(109, 1), many(110, 2), slices.Concat(many(110, 3), many(110, 4)), slices.Concat(many(109, 5), many(110, 6), many(1, 7), many(50, 8))} {
			for j := range l {
				l[j].At = size - 1 - l[j].At // the last ones, falling
			}
			last := map[int]string{}
			for _, x := range l {
				last[x.At] = x.Data
			}
			before := d.Writes()
			want(t, "MaxTx", api.OK, w.Commit(l...))
			if d.Writes()-before != 2*len(last)+2 {
				t.Errorf("%d writes of %d sectors", d.Writes()-before, len(last))
			}
			for at, data := range last {
				wantSector(t, "MaxTx", w, at, data)
			}
			wantCounts(t, "MaxTx", w, k+1, true, k+1)
		}
	}
}

func TestP902CommitMaxTxActs(t *testing.T) {
	d := made(t, 222)
	want(t, "Commit", api.OK, opened(t, d).Commit(many(110, 1)...))
	l := many(110, 2)
	for k := range l {
		l[k].At++
	}
	acts := committed(t, 2, l...)
	for n := 0; n < len(acts); n += 7 {
		for _, keep := range somes(110) {
			got, model := d.Twin(), d.Twin()
			got.Arm(n, keep...)
			model.Arm(n, keep...)
			want(t, "MaxTx", api.ErrOff, opened(t, got).Commit(l...))
			follow(model, acts)
			wantSight(t, "MaxTx", got, look(model))
		}
	}
}

func TestP902CommitFewSectors(t *testing.T) {
	d, w := least(t)
	var l []api.Write
	for k := range 5000 {
		l = append(l, api.Write{At: k * k % fewest, Data: other(k, 9)})
	}
	last := map[int]string{}
	for _, x := range l {
		last[x.At] = x.Data
	}
	want(t, "Commit", api.OK, w.Commit(l...))
	for at := range fewest {
		data, ok := last[at]
		if !ok {
			data = full(0)
		}
		wantSector(t, "of few sectors", w, at, data)
	}
	if d.Writes() != 2*len(last)+2 {
		t.Errorf("%d writes of %d sectors", d.Writes(), len(last))
	}
}

// refused asks that a Commit answers the error want, writes nothing and leaves all as it is.
func refused(t *testing.T, what string, d *disk.Disk, w *Wal, e api.Errno, l ...api.Write) {
	t.Helper()
	seq, up, commits := w.Seq(), w.Up(), w.Commits()
	untouched(t, what, d, func() { want(t, what, e, w.Commit(l...)) })
	wantCounts(t, what, w, seq, up, commits)
}

func TestP902CommitWrong(t *testing.T) {
	for _, n := range []int{api.Least, 221, 222, api.Sectors} {
		size := n - 111
		d := made(t, n)
		w := opened(t, d)
		want(t, "Commit", api.OK, w.Commit(puts(0, "abc")...))
		want(t, "Write", api.OK, d.Write(put(112, 'b'))) // not safe: a Flush would show
		for _, at := range outside(size) {
			refused(t, "no home sector", d, w, api.ErrRange, put(at, 'x'))
			refused(t, "no home sector ahead", d, w, api.ErrRange, put(at, 'x'), put(1, 'x'))
			refused(t, "no home sector behind", d, w, api.ErrRange, put(1, 'x'), put(2, 'y'), put(at, 'x'))
			refused(t, "no home sector, of zero bytes", d, w, api.ErrRange, put(at, 0))
		}
		for _, data := range misfits() {
			x := api.Write{At: 1, Data: data}
			refused(t, "no sector", d, w, api.ErrArg, x)
			refused(t, "no sector ahead", d, w, api.ErrArg, x, put(2, 'x'))
			refused(t, "no sector behind", d, w, api.ErrArg, put(2, 'x'), put(0, 'x'), x)
			refused(t, "no sector, but a later one is", d, w, api.ErrArg, x, put(1, 'x'))
			refused(t, "no sector, but one ahead is", d, w, api.ErrArg, put(1, 'x'), x)
		}
		for at := range 4 {
			wantSector(t, "refused", w, at, full("abc\x00"[at]))
		}
	}
}

func TestP902CommitWrongOrder(t *testing.T) {
	d, w := least(t)
	short := api.Write{At: 1, Data: "short"}
	for _, at := range outside(fewest) {
		refused(t, "both in one", d, w, api.ErrRange, api.Write{At: at, Data: "short"})
		refused(t, "ErrRange first", d, w, api.ErrRange, put(at, 'x'), short)
		refused(t, "ErrArg first", d, w, api.ErrArg, short, put(at, 'x'))
		refused(t, "ErrArg first", d, w, api.ErrArg, put(0, 'x'), short, put(at, 'x'), short)
	}
	big := made(t, api.Sectors)
	w = opened(t, big)
	refused(t, "ErrRange ahead of ErrLarge", big, w, api.ErrRange, append(many(111, 1), put(most, 'x'))...)
	refused(t, "ErrRange ahead of ErrLarge", big, w, api.ErrRange, append(puts(-1, "x"), many(111, 1)...)...)
	refused(t, "ErrArg ahead of ErrLarge", big, w, api.ErrArg, append(many(111, 1), short)...)
	refused(t, "ErrArg ahead of ErrLarge", big, w, api.ErrArg, append([]api.Write{short}, many(111, 1)...)...)
}

func TestP902CommitLarge(t *testing.T) {
	for _, n := range []int{222, 400, api.Sectors} {
		size := n - 111
		d := made(t, n)
		w := opened(t, d)
		want(t, "Commit", api.OK, w.Commit(puts(0, "abc")...))
		for _, m := range []int{111, 112, 150, 220, 221, 1000, size} {
			if m <= size {
				refused(t, "too many", d, w, api.ErrLarge, many(m, 1)...)
				refused(t, "too many, some twice", d, w, api.ErrLarge, slices.Concat(many(50, 2), many(m, 1), many(m/2, 3))...)
				l := many(m, 4)
				slices.Reverse(l)
				refused(t, "too many, falling", d, w, api.ErrLarge, l...)
			}
		}
		wantHome(t, "too many", w, "abc")
		want(t, "behind", api.OK, w.Commit(many(110, 5)...))
		wantCounts(t, "behind", w, 2, true, 2)
	}
}

// TestP902CommitWrongWithoutPower asks that what can't be is told ahead of what the disk tells, and leaves the Wal up.
func TestP902CommitWrongWithoutPower(t *testing.T) {
	d := made(t, api.Sectors)
	w := opened(t, d)
	d.Crash()
	want(t, "off", api.ErrRange, w.Commit(put(most, 'x')))
	want(t, "off", api.ErrArg, w.Commit(api.Write{At: 1, Data: "short"}))
	want(t, "off", api.ErrLarge, w.Commit(many(111, 1)...))
	wantCounts(t, "off", w, 0, true, 0)
	want(t, "off", api.ErrOff, w.Commit(put(1, 'x')))
	wantCounts(t, "down", w, 0, false, 0)
}

// wantDown asks that a Wal that is not up answers ErrOff, writes nothing and is as it is.
func wantDown(t *testing.T, d *disk.Disk, w *Wal) {
	t.Helper()
	refused(t, "down", d, w, api.ErrOff, put(0, 'q'))
	refused(t, "down, of none", d, w, api.ErrOff)
	refused(t, "down, ErrRange", d, w, api.ErrOff, put(-1, 'q'))
	refused(t, "down, ErrArg", d, w, api.ErrOff, api.Write{At: 1, Data: "short"})
	refused(t, "down, ErrLarge", d, w, api.ErrOff, many(111, 1)...)
	wantFault(t, "down", w, 0, api.ErrOff)
	wantFault(t, "down", w, -1, api.ErrOff)
}

func TestP902CommitDown(t *testing.T) {
	first, v := least(t)
	want(t, "Commit", api.OK, v.Commit(puts(0, "abc")...))
	for n := range 12 {
		d := first.Twin()
		w := opened(t, d)
		d.Arm(n)
		want(t, "Commit", api.ErrOff, w.Commit(puts(0, "xyz")...))
		wantCounts(t, "down", w, 1, false, 0)
		if w.Size() != fewest {
			t.Errorf("down: %d home sectors", w.Size())
		}
		d.Restore()
		wantDown(t, d, w)
		u := opened(t, d)
		want(t, "Commit of another one", api.OK, u.Commit(puts(0, "uvw")...))
		wantDown(t, d, w)
		wantHome(t, "another one", u, "uvw")
	}
}

func TestP902CommitWithoutPower(t *testing.T) {
	d, w := least(t)
	want(t, "Commit", api.OK, w.Commit(puts(0, "abc")...))
	d.Crash()
	d.Restore()
	want(t, "off and on", api.OK, w.Commit(puts(0, "xyz")...))
	wantCounts(t, "off and on", w, 2, true, 2)
	d.Crash()
	want(t, "off", api.ErrOff, w.Commit(puts(0, "uvw")...))
	wantCounts(t, "off", w, 2, false, 2)
	d.Restore()
	wantDown(t, d, w)
	wantHome(t, "anew", opened(t, d), "xyz")
}

// TestP902CommitLastSeq has a head whose number can't be greater.
func TestP902CommitLastSeq(t *testing.T) {
	d := headed(t, api.Least, lay(t, head.Head{Seq: 1<<40 - 1}), "")
	w := opened(t, d)
	want(t, "the last one", api.OK, w.Commit(put(0, 'a')))
	wantCounts(t, "the last one", w, 1<<40, true, 1)
	refused(t, "one more", d, w, api.ErrArg, put(0, 'b'))
	refused(t, "of none", d, w, api.OK)
	refused(t, "no home sector", d, w, api.ErrRange, put(-1, 'b'))
	wantHome(t, "one more", w, "a")
}

func TestP902WhatIsHandedIn(t *testing.T) {
	d, w := least(t)
	l := make([]api.Write, 0, 10)
	l = append(l, put(3, 'x'), put(0, 'y'), put(3, 'z'), put(1, 'w'))
	spare := l[:10]
	copied := slices.Clone(spare)
	want(t, "Commit", api.OK, w.Commit(l...))
	if !slices.Equal(spare, copied) {
		t.Errorf("what was handed in is %v", spare)
	}
	want(t, "refused", api.ErrArg, w.Commit(l[:5]...))
	if !slices.Equal(spare, copied) {
		t.Errorf("what was handed in is %v", spare)
	}
	wantHome(t, "Commit", w, "yw0z")
	for k := range l {
		l[k] = put(9, 'n')
	}
	wantHome(t, "a list that was changed", w, "yw0z")
	wantHome(t, "anew", opened(t, d), "yw0z")
}

func TestP902AnswersAreNew(t *testing.T) {
	_, w := least(t)
	x := put(3, 'x')
	want(t, "Commit", api.OK, w.Commit(x))
	a, _ := w.Read(3)
	b, _ := w.Read(3)
	if unsafe.StringData(a) == unsafe.StringData(x.Data) || unsafe.StringData(a) == unsafe.StringData(b) {
		t.Error("an answer shares its memory")
	}
}

// P903: Size, Seq, Up, Commits.

func TestP903Size(t *testing.T) {
	for n := api.Least; n <= api.Sectors; n += 20 {
		if w := opened(t, made(t, n)); w.Size() != n-111 {
			t.Errorf("of %d sectors: %d", n, w.Size())
		}
	}
	_, w := least(t)
	if w.Size() != 29 || w.Size() != fewest {
		t.Errorf("%d home sectors", w.Size())
	}
}

func TestP903Counts(t *testing.T) {
	d := headed(t, api.Least, lay(t, head.Head{Seq: 40}), "")
	w := opened(t, d)
	for k := range 100 {
		wantCounts(t, "ahead", w, 40+k, true, k)
		want(t, "of none", api.OK, w.Commit())
		want(t, "ErrRange", api.ErrRange, w.Commit(put(-1, 'x')))
		want(t, "Commit", api.OK, w.Commit(puts(k%fewest, "x")...))
		b, _ := d.Read(0)
		if h, e := head.Read(b); h.Seq != 41+k || h.Full || e != api.OK {
			t.Errorf("the head is %v, %d", h, e)
		}
		wantCounts(t, "anew", opened(t, d), 41+k, true, 0)
	}
	wantCounts(t, "behind", w, 140, true, 100)
}

func TestP903Nil(t *testing.T) {
	var w *Wal
	for _, at := range []int{0, 1, -1, math.MaxInt} {
		wantFault(t, "nil", w, at, api.ErrArg)
	}
	want(t, "nil", api.ErrArg, w.Commit())
	want(t, "nil", api.ErrArg, w.Commit(put(0, 'x')))
	want(t, "nil", api.ErrArg, w.Commit(put(-1, 'x')))
	want(t, "nil", api.ErrArg, w.Commit(many(111, 1)...))
	wantCounts(t, "nil", w, 0, false, 0)
	if w.Size() != 0 {
		t.Errorf("nil: %d home sectors", w.Size())
	}
}

func TestP903Zero(t *testing.T) {
	w := new(Wal)
	for _, at := range []int{0, 1, -1, math.MaxInt} {
		wantFault(t, "zero", w, at, api.ErrOff)
	}
	want(t, "zero", api.ErrOff, w.Commit())
	want(t, "zero", api.ErrOff, w.Commit(put(0, 'x')))
	wantCounts(t, "zero", w, 0, false, 0)
	if w.Size() != 0 {
		t.Errorf("zero: %d home sectors", w.Size())
	}
}

// P904: wherever the power goes.

// wantEither asks that a disk, opened at last, is as ahead of a Commit or as behind it, and goes on.
func wantEither(t *testing.T, what string, d *disk.Disk, told api.Errno, before, behind string) {
	t.Helper()
	w, e := Open(d)
	if e != api.OK {
		t.Fatalf("%s: Open: %d", what, e)
	}
	got := homeOf(d)
	if got != behind && (got != before || told == api.OK) {
		t.Errorf("%s: told %d, and neither as ahead nor as behind", what, told)
	}
	if w.Commit(put(4, 'q')) != api.OK || homeOf(d) != becomes(got, puts(4, "q")...) {
		t.Errorf("%s: it does not go on", what)
	}
}

// broken commits l on a Twin of d, with the power going at the act n, and tells the disk that has power again, and what was told.
func broken(t *testing.T, d *disk.Disk, l []api.Write, n int, keep []int) (*disk.Disk, api.Errno) {
	t.Helper()
	return witness.Broken(d, n, keep, func(d *disk.Disk) api.Errno {
		w := opened(t, d)
		e := w.Commit(l...)
		if w.Up() != (e == api.OK) {
			t.Errorf("told %d, and up is %t", e, w.Up())
		}
		return e
	})
}

// reopened opens a Twin of d, with the power going at the act n, and tells the disk that has power again.
func reopened(d *disk.Disk, n int, keep []int) *disk.Disk {
	c, _ := witness.Broken(d, n, keep, func(d *disk.Disk) api.Errno { _, e := Open(d); return e })
	return c
}

// TestP904 lets the power go at each act of a Commit, of the Open behind it, and of the Open behind that.
func TestP904(t *testing.T) {
	first, v := least(t)
	want(t, "Commit", api.OK, v.Commit(puts(0, "abc")...))
	before := homeOf(first)
	for _, l := range [][]api.Write{puts(2, "x"), puts(0, "xy-z"), {put(28, 'x'), put(0, 'y'), put(28, 'z')}} {
		behind := becomes(before, l...)
		for n := range 14 {
			for _, keep := range choices(3) {
				d, told := broken(t, first, l, n, keep)
				wantEither(t, "opened", d.Twin(), told, before, behind)
				for m := range 7 {
					for _, other := range choices(3) {
						c := reopened(d, m, other)
						wantEither(t, "opened again", c.Twin(), told, before, behind)
						for i := range 7 {
							wantEither(t, "opened once more", reopened(c, i, keep), told, before, behind)
						}
					}
				}
			}
		}
	}
}

// TestP904MaxTx does so with as many sectors as there may be.
func TestP904MaxTx(t *testing.T) {
	first := made(t, 230)
	want(t, "Commit", api.OK, opened(t, first).Commit(many(100, 1)...))
	before := homeOf(first)
	l := many(110, 2)
	for k := range l {
		l[k].At += 9
	}
	slices.Reverse(l)
	behind := becomes(before, l...)
	for n := range 226 {
		for k, keep := range somes(110) {
			d, told := broken(t, first, l, n, keep)
			if told == api.OK {
				t.Errorf("told OK, and %d acts", n)
			}
			m := (7*n + 19*k) % 114
			c := reopened(d, m, somes(110)[(k+n)%6])
			wantEither(t, "opened", d, told, before, behind)
			wantEither(t, "opened again", c, told, before, behind)
		}
	}
}

// TestP904Acts asks at which act a Commit is safe: not ahead of its head, and always behind it.
func TestP904Acts(t *testing.T) {
	first, _ := least(t)
	before := homeOf(first)
	l := puts(0, "xyz")
	behind := becomes(before, l...)
	for n := range 13 {
		for _, keep := range choices(3) {
			d, told := broken(t, first, l, n, keep)
			opened(t, d)
			safe := n > 5 || n >= 4 && keep[0] == 1 // of the acts 0 to 2 are what is to be written, 3 a Flush, 4 the head, 5 a Flush
			if got := homeOf(d); (got == behind) != safe || (told == api.OK) != (n == 12) {
				t.Errorf("the power goes at %d, %v kept: told %d, as behind it: %t, not %t", n, keep, told, got == behind, safe)
			}
		}
	}
}

// TestP904Run lets the power go at many places of a long run of Commits, and holds home against a list of sectors.
func TestP904Run(t *testing.T) {
	for _, n := range []int{api.Least, 150, 260} {
		d := made(t, n)
		w := opened(t, d)
		home := homeOf(d)
		draw := uint32(n)
		next := func(below int) int {
			draw = draw*1664525 + 1013904223
			return int(draw>>8) % below
		}
		for k := range 2000 {
			var l []api.Write
			for range next(12) {
				l = append(l, api.Write{At: next(w.Size()), Data: other(next(1000), k)})
			}
			if next(3) == 0 {
				d.Arm(next(30), next(2), next(2), next(2), next(2), next(2))
			}
			e := w.Commit(l...)
			behind := becomes(home, l...)
			if e == api.OK {
				home = behind
			}
			for !d.On() {
				d.Restore()
				if next(2) == 0 {
					d.Arm(next(20), next(2), next(2), next(2))
				}
				if u, f := Open(d); f == api.OK {
					w = u
				}
			}
			d.Arm(-1)
			if got := homeOf(d); got != home && (e == api.OK || got != behind) {
				t.Fatalf("%d sectors, commit %d: told %d, and neither as ahead nor as behind", n, k, e)
			}
			home = homeOf(d)
		}
	}
}
