package desk

import (
	"math"
	"slices"
	"strings"
	"testing"
	"unsafe"

	"masonry/api"
	"masonry/crc"
	"masonry/disk"
	"masonry/head"
	"masonry/sample"
	"masonry/wal"
	"masonry/witness"
)

const (
	fewest = api.Least - 111   // home sectors of a disk of the fewest sectors
	most   = api.Sectors - 111 // of one of the most
)

var (
	full, put, choices        = sample.Full, sample.Put, sample.Choices
	upTo, outside             = sample.UpTo, sample.Outside
	made, lay, headed, broken = witness.Made, witness.Lay, witness.Headed, witness.Broken
	want, wantRead            = witness.Want, witness.WantSector
	wantCounts, wantActs      = witness.WantCounts, witness.WantActs
	wantGet, wantFault        = witness.WantGet, witness.WantNoGet
	wantUsed, wantDirty       = witness.WantUsed, witness.WantDirty
	untouched, kept           = witness.Untouched, witness.Kept
)

// formatted tells a new disk of n sectors, and the Desk that Format made on it.
func formatted(t *testing.T, n int) (*disk.Disk, *Desk) {
	t.Helper()
	d := made(t, n)
	return d, format(t, d)
}

// format tells the Desk that Format makes on a disk.
func format(t *testing.T, d *disk.Disk) *Desk {
	t.Helper()
	k, e := Format(d)
	if k == nil || e != api.OK {
		t.Fatalf("Format: %v, %d", k, e)
	}
	return k
}

// opened tells the Desk of a disk.
func opened(t *testing.T, d *disk.Disk) *Desk {
	t.Helper()
	k, e := Open(d)
	if k == nil || e != api.OK {
		t.Fatalf("Open: %v, %d", k, e)
	}
	return k
}

// filled tells a disk of n sectors, and a Desk on which home sectors from 2 on are of the bytes of text, committed.
func filled(t *testing.T, n int, text string) (*disk.Disk, *Desk) {
	t.Helper()
	d, k := formatted(t, n)
	for i := range len(text) {
		wantNew(t, "filled", k, full(text[i]), 2+i)
	}
	want(t, "filled", api.OK, k.Sync())
	return d, k
}

// roomOf tells the sector that says that of n home sectors these are in use, laid by hand.
func roomOf(t *testing.T, n int, used ...int) string {
	t.Helper()
	b := make([]byte, 252)
	b[0], b[1], b[2] = 6, byte(n), byte(n>>8)
	for _, at := range used {
		b[3+at/8] |= 1 << (at % 8)
	}
	s, e := crc.Seal(api.Sector, string(b))
	want(t, "crc.Seal", api.OK, e)
	return s
}

// wantNew asks that New takes the sector at.
func wantNew(t *testing.T, what string, k *Desk, data string, at int) {
	t.Helper()
	if got, e := k.New(data); got != at || e != api.OK {
		t.Errorf("%s: New: %d, %d, not %d", what, got, e, at)
	}
}

// wantNoNew asks that New answers the error want, and nothing.
func wantNoNew(t *testing.T, what string, k *Desk, data string, want api.Errno) {
	t.Helper()
	if got, e := k.New(data); got != 0 || e != want {
		t.Errorf("%s: New: %d, %d, not error %d", what, got, e, want)
	}
}

// wantDesk asks that just those sectors are in use that text has no '-' for, and are of its bytes (0: of zero bytes; that of the Room is not asked), and for Dirty.
func wantDesk(t *testing.T, what string, k *Desk, text string, dirty ...int) {
	t.Helper()
	var used []int
	for at := range len(text) {
		if text[at] == '-' {
			continue
		}
		used = append(used, at)
		if at != 1 {
			wantGet(t, what, k, at, full(strings.ReplaceAll(text, "0", "\x00")[at]))
		}
	}
	wantUsed(t, what, k, used...)
	wantDirty(t, what, k, dirty...)
}

// wantNoDesk asks that neither Open nor Format answers a Desk, but these errors; a disk that has power is not touched.
func wantNoDesk(t *testing.T, what string, d *disk.Disk, open, format api.Errno) {
	t.Helper()
	untouched(t, what, d, func() {
		if k, e := Open(d); k != nil || e != open {
			t.Errorf("%s: Open: %v, %d, not error %d", what, k, e, open)
		}
		if k, e := Format(d); k != nil || e != format {
			t.Errorf("%s: Format: %v, %d, not error %d", what, k, e, format)
		}
	})
}

// P1101: Format.

func TestP1101Format(t *testing.T) {
	for _, n := range []int{api.Least, api.Least + 1, 221, 222, 1000, api.Sectors - 1, api.Sectors} {
		d := made(t, n)
		for at := range n - 1 {
			want(t, "Write", api.OK, d.Write(put(1+at, 'x')))
		}
		k := format(t, d)
		wantCounts(t, "Format", k, 1, true, 1)
		wantDesk(t, "Format", k, "0R")
		want(t, "Bad", api.OK, k.Bad())
		if k.Size() != n-111 || d.Dirty() != 0 || d.Writes() != n-1+6 {
			t.Errorf("%d sectors: %d home sectors, %d not safe, %d writes", n, k.Size(), d.Dirty(), d.Writes())
		}
		wantGet(t, "the Room", k, 1, roomOf(t, n-111, 0, 1))
		for at := 2; at < n-111; at++ {
			wantGet(t, "what was there", k, at, full('x'))
		}
	}
}

func TestP1101FormatAgain(t *testing.T) {
	d, k := filled(t, api.Least, "abc")
	want(t, "Set", api.OK, k.Set(0, full('z')))
	want(t, "Sync", api.OK, k.Sync())
	want(t, "Set", api.OK, k.Set(2, full('q')))
	k = format(t, d)
	wantDesk(t, "again", k, "0R")
	wantCounts(t, "again", k, 4, true, 1)
	for at, b := range []byte("abc\x00") {
		wantGet(t, "not in use", k, 2+at, full(b))
	}
	wantDesk(t, "opened", opened(t, d), "0R")
}

// formatActs tells what the Commit of a Format does, behind which the head's number is seq.
func formatActs(t *testing.T, size, seq int) []witness.Act {
	return witness.Committed(t, seq, put(0, 0), api.Write{At: 1, Data: roomOf(t, size, 0, 1)})
}

// noHeads tells sectors that are no head.
func noHeads(t *testing.T) []string {
	zero := full(0)
	l := []string{full('j'), full(255), zero[:255] + "\x01", "\x07" + zero[1:], sample.Bytes(api.Sector), roomOf(t, fewest, 0, 1)}
	for _, h := range []head.Head{{Seq: 4}, {Seq: 4, Full: true, Targets: []int{0, 5}}} {
		b := lay(t, h)
		for _, k := range []int{0, 1, 2, 9, 10, 12, 14, 100, 251, 252, 255} {
			l = append(l, b[:k]+string([]byte{b[k] ^ 1})+b[k+1:])
		}
	}
	for _, body := range []string{"", "\x06", "\x07\x02", "\x07\x01\x04", "\x07\x00\x04\x00\x00\x00\x00\x00\x00\x00\x01\x00\x03"} {
		b, _ := crc.Seal(api.Sector, body)
		l = append(l, b)
	}
	return l
}

func TestP1101FormatActs(t *testing.T) {
	do := func(d *disk.Disk) api.Errno { _, e := Format(d); return e }
	keeps := choices(3)
	wantActs(t, "a new disk", made(t, api.Least), formatActs(t, fewest, 1), keeps, do)
	wantActs(t, "a great one", made(t, api.Sectors), formatActs(t, most, 1), keeps[:2], do)
	d, _ := filled(t, api.Least, "abc")
	wantActs(t, "one that was formatted", d, formatActs(t, fewest, 3), keeps, do)
	anew := append(witness.Flushed([]api.Write{put(0, 0)}), formatActs(t, fewest, 1)...)
	for _, b := range noHeads(t) {
		wantActs(t, "no head", headed(t, api.Least, b, "pq"), anew, keeps[:3], do)
	}
	wantActs(t, "no head", headed(t, api.Least, full('j'), strings.Repeat("j", api.Least-1)), anew, keeps, do)
	redone := append(witness.Redone(t, 4, put(0, 'p'), put(5, 'q')), formatActs(t, fewest, 5)...)
	wantActs(t, "a head that is Full", headed(t, api.Least, lay(t, head.Head{Seq: 4, Full: true, Targets: []int{0, 5}}), "pq"), redone, keeps, do)
}

func TestP1101FormatNoHead(t *testing.T) {
	for _, b := range noHeads(t) {
		d := headed(t, api.Least, b, "pq")
		if k, e := Open(d); k != nil || e != api.ErrBroken {
			t.Errorf("no head: Open: %v, %d", k, e)
		}
		k := format(t, d)
		wantCounts(t, "made anew", k, 1, true, 1)
		wantDesk(t, "made anew", k, "0R")
		wantDesk(t, "opened", opened(t, d), "0R")
	}
}

// TestP1101FormatOverHead formats disks whose head is one: it is not made anew.
func TestP1101FormatOverHead(t *testing.T) {
	for _, seq := range []int{0, 1, 4, 1<<40 - 1} {
		k := format(t, headed(t, api.Least, lay(t, head.Head{Seq: seq}), "pq"))
		wantCounts(t, "Done", k, seq+1, true, 1)
		d := headed(t, api.Least, lay(t, head.Head{Seq: seq, Full: true, Targets: []int{0, 1, 28}}), "pqr")
		k = format(t, d)
		wantCounts(t, "Full", k, seq+1, true, 1)
		wantDesk(t, "Full", k, "0R")
		wantGet(t, "what was to be written", k, 28, full('r'))
	}
}

func TestP1101NoDisk(t *testing.T) {
	wantNoDesk(t, "nil", nil, api.ErrArg, api.ErrArg)
	wantNoDesk(t, "a zero disk", new(disk.Disk), api.ErrOff, api.ErrOff)
	raw, junk := made(t, api.Least), headed(t, api.Least, full('j'), "")
	good, _ := filled(t, api.Least, "abc")
	for _, d := range []*disk.Disk{raw, junk, good} {
		d.Crash()
		wantNoDesk(t, "off", d, api.ErrOff, api.ErrOff)
		d.Restore()
		format(t, d)
	}
}

// TestP1101NoTarget has a head that is one, but says that something is to be written where there is no home sector.
func TestP1101NoTarget(t *testing.T) {
	for _, n := range []int{api.Least, 400, api.Sectors} {
		for _, at := range []int{n - 111, n - 110, n - 1, 1999} {
			for _, targets := range [][]int{{at}, {0, at}} {
				d := headed(t, n, lay(t, head.Head{Seq: 4, Full: true, Targets: targets}), "pq")
				wantNoDesk(t, "no home sector", d, api.ErrBroken, api.ErrBroken)
			}
		}
	}
}

// TestP1101FormatLastSeq has a head behind which no other one can be.
func TestP1101FormatLastSeq(t *testing.T) {
	d := headed(t, api.Least, lay(t, head.Head{Seq: 1 << 40}), "pq")
	wantNoDesk(t, "the last head", d, api.ErrBroken, api.ErrArg)
}

// TestP1101FormatPower lets the power go at each act of a Format: a disk is as it was, or formatted.
func TestP1101FormatPower(t *testing.T) {
	old, k := filled(t, api.Least, "abc")
	want(t, "Set", api.OK, k.Set(0, full('z')))
	want(t, "Sync", api.OK, k.Sync())
	do := func(d *disk.Disk) api.Errno {
		k, e := Format(d)
		if (k == nil) == (e == api.OK) {
			t.Errorf("Format: %v, %d", k, e)
		}
		return e
	}
	junk := headed(t, api.Least, full('j'), "")
	for _, first := range []*disk.Disk{old, made(t, api.Least), junk} {
		for n := range 15 {
			for _, keep := range choices(2) {
				d, e := broken(first, n, keep, do)
				was, e2 := Open(d)
				switch {
				case e2 == api.OK && was.Room().Free() == fewest-2:
					wantDesk(t, "as behind it", was, "0R")
				case e == api.OK:
					t.Errorf("told OK, and opened: %d", e2)
				case first == old:
					wantDesk(t, "as ahead of it", opened(t, d), "zRabc")
				default:
					want(t, "as ahead of it", api.ErrBroken, e2)
				}
				wantDesk(t, "once more", format(t, d), "0R")
				wantDesk(t, "once more, opened", opened(t, d), "0R")
			}
		}
	}
}

// P1101: Open.

func TestP1101Open(t *testing.T) {
	for _, n := range []int{api.Least, 141, 200, api.Sectors} {
		d, k := filled(t, n, "abcde")
		last := n - 112
		want(t, "Drop", api.OK, k.Drop(3, 5))
		want(t, "Keep", api.OK, k.Keep(2, 4, 6, last))
		want(t, "Set", api.OK, k.Set(last, full('z')))
		want(t, "Set", api.OK, k.Set(0, full('y')))
		want(t, "Sync", api.OK, k.Sync())
		want(t, "Set", api.OK, k.Set(2, full('x')))
		wantNew(t, "not committed", k, full('w'), 3)
		untouched(t, "Open", d, func() {
			k := opened(t, d)
			wantDesk(t, "Open", k, "yRa-c-e"+strings.Repeat("-", last-7)+"z")
			wantCounts(t, "Open", k, 3, true, 0)
			want(t, "Bad", api.OK, k.Bad())
			wantGet(t, "the Room", k, 1, roomOf(t, n-111, 0, 1, 2, 4, 6, last))
		})
		again := opened(t, d)
		wantNew(t, "Open", again, full('v'), 3)
		wantDirty(t, "Open", again, 1, 3)
	}
}

// TestP1101OpenRedoes has a Room that was to be written when the power went.
func TestP1101OpenRedoes(t *testing.T) {
	d, k := filled(t, api.Least, "abc")
	want(t, "Set", api.OK, k.Set(2, full('x')))
	wantNew(t, "New", k, full('y'), 5)
	d.Arm(6) // behind the three sectors that are to be written, a Flush, the head and a Flush
	want(t, "Sync", api.ErrOff, k.Sync())
	d.Restore()
	writes := d.Writes()
	k = opened(t, d)
	wantDesk(t, "written when it is opened", k, "0Rxbcy")
	wantCounts(t, "written when it is opened", k, 3, true, 0)
	if d.Writes() != writes+4 || d.Dirty() != 0 {
		t.Errorf("%d writes, %d not safe", d.Writes()-writes, d.Dirty())
	}
}

func TestP1101OpenPower(t *testing.T) {
	d, k := filled(t, api.Least, "abc")
	want(t, "Set", api.OK, k.Set(2, full('x')))
	d.Arm(4)
	want(t, "Sync", api.ErrOff, k.Sync())
	for n := range 4 {
		d.Restore()
		d.Arm(n)
		if k, e := Open(d); k != nil || e != api.ErrOff {
			t.Errorf("Open: %v, %d", k, e)
		}
	}
	d.Restore()
	wantDesk(t, "at last", opened(t, d), "0Rxbc")
}

func TestP1101OpenNoRoom(t *testing.T) {
	for _, n := range []int{api.Least, 500, api.Sectors} {
		size := n - 111
		good := roomOf(t, size, 0, 1, 2, 7)
		l := []string{full(0), full('j'), full(255), lay(t, head.Head{Seq: 4}), "\x05" + good[1:]}
		for _, used := range [][]int{{}, {0}, {1}, {0, 2}, {1, 2}, upTo(2, size), upTo(1, size), append(upTo(2, size), 0)} {
			l = append(l, roomOf(t, size, used...))
		}
		for _, other := range []int{2, size - 8, size - 1, size + 1, size + 2, size + 8, 1900} {
			l = append(l, roomOf(t, other, 0, 1))
		}
		l = append(l, roomOf(t, 0), roomOf(t, 1, 0), roomOf(t, 1901, 0, 1), roomOf(t, size+256, 0, 1), roomOf(t, size, 0, 1, size))
		for k := range api.Sector {
			l = append(l, good[:k]+string([]byte{good[k] ^ 4})+good[k+1:])
		}
		d, k := formatted(t, n)
		for _, b := range l {
			want(t, "Commit", api.OK, k.Commit(api.Write{At: 1, Data: b}))
			untouched(t, "no Room", d, func() {
				if k, e := Open(d); k != nil || e != api.ErrBroken {
					t.Errorf("of %d sectors: Open of the Room %.12x: %v, %d", n, b, k, e)
				}
			})
		}
		want(t, "Commit", api.OK, k.Commit(api.Write{At: 1, Data: good}))
		wantUsed(t, "a Room", opened(t, d), 0, 1, 2, 7)
		want(t, "Commit", api.OK, k.Commit(api.Write{At: 1, Data: full(0)}))
		wantDesk(t, "made anew", format(t, d), "0R")
	}
	raw := made(t, api.Least)
	untouched(t, "a new disk", raw, func() {
		if k, e := Open(raw); k != nil || e != api.ErrBroken {
			t.Errorf("a new disk: Open: %v, %d", k, e)
		}
	})
}

func TestP1101OpenFullRoom(t *testing.T) {
	for _, n := range []int{api.Least, api.Sectors} {
		d, k := formatted(t, n)
		want(t, "Keep", api.OK, k.Keep(upTo(0, n-111)...))
		want(t, "Sync", api.OK, k.Sync())
		again := opened(t, d)
		wantUsed(t, "all", again, upTo(0, n-111)...)
		wantNoNew(t, "all", again, full('x'), api.ErrFull)
	}
}

// TestP1101Embeds asks that what is promoted is the Wal's: what is on the desk is not to be seen in it.
func TestP1101Embeds(t *testing.T) {
	d, k := filled(t, api.Least, "abc")
	var w *wal.Wal = k.Wal
	want(t, "Set", api.OK, k.Set(2, full('x')))
	wantRead(t, "ahead", k, 2, full('a'))
	want(t, "Sync", api.OK, k.Sync())
	wantRead(t, "behind", k, 2, full('x'))
	if k.Size() != w.Size() || w.Seq() != 3 || w.Commits() != 3 || !w.Up() || k.Wal != w {
		t.Errorf("its Wal: %d, %d, %d, %t", w.Size(), w.Seq(), w.Commits(), w.Up())
	}
	wantCounts(t, "a Desk", k, 3, true, 3)
	again := opened(t, d)
	wantCounts(t, "opened", again, 3, true, 0)
	want(t, "Commit", api.OK, w.Commit(put(2, 'w'), put(9, 'v')))
	wantGet(t, "what the Wal wrote", k, 2, full('w'))
	wantGet(t, "what the Wal wrote, not in use", k, 9, full('v'))
	wantCounts(t, "its Wal's", k, 4, true, 4)
	wantDirty(t, "its Wal's", k)
	if s, e := k.Read(fewest); s != "" || e != api.ErrRange {
		t.Errorf("Read: %q, %d", s, e)
	}
}

// P1102: Get, Set.

func TestP1102GetSet(t *testing.T) {
	for _, n := range []int{api.Least, 222, api.Sectors} {
		d, k := formatted(t, n)
		last := n - 112
		want(t, "Keep", api.OK, k.Keep(2, last))
		want(t, "Sync", api.OK, k.Sync())
		for _, at := range []int{0, 2, last} {
			kept(t, "Get", d, k, func() { wantGet(t, "ahead", k, at, full(0)) })
			want(t, "Set", api.OK, k.Set(at, full('a')))
			wantGet(t, "Set", k, at, full('a'))
			wantRead(t, "not committed", k, at, full(0))
			wantDirty(t, "Set", k, at)
			want(t, "Set once more", api.OK, k.Set(at, full('b')))
			wantGet(t, "Set once more", k, at, full('b'))
			wantDirty(t, "Set once more", k, at)
			want(t, "Sync", api.OK, k.Sync())
			wantGet(t, "committed", k, at, full('b'))
			wantRead(t, "committed", k, at, full('b'))
			wantDirty(t, "committed", k)
			want(t, "Set", api.OK, k.Set(at, full(0)))
			want(t, "Sync", api.OK, k.Sync())
		}
	}
}

// TestP1102SetAsItIs asks that what is Set is on the desk, also if it is as before.
func TestP1102SetAsItIs(t *testing.T) {
	d, k := filled(t, api.Least, "abc")
	want(t, "Set", api.OK, k.Set(3, full('b')))
	want(t, "Set", api.OK, k.Set(0, full(0)))
	wantDesk(t, "as it is", k, "0Rabc", 0, 3)
	wantActs(t, "as it is", d, witness.Committed(t, 3, put(3, 'b')), choices(2), func(d *disk.Disk) api.Errno {
		k := opened(t, d)
		want(t, "Set", api.OK, k.Set(3, full('b')))
		return k.Sync()
	})
	want(t, "Sync", api.OK, k.Sync())
	wantDesk(t, "committed", k, "0Rabc")
}

func TestP1102GetOfAll(t *testing.T) {
	for _, n := range []int{api.Least, api.Sectors} {
		d, k := formatted(t, n)
		for at := 2; at < n-111; at++ {
			want(t, "Commit", api.OK, k.Commit(api.Write{At: at, Data: sample.Other(at, 1)}))
		}
		kept(t, "Get", d, k, func() {
			for at := 2; at < n-111; at++ {
				wantGet(t, "not in use", k, at, sample.Other(at, 1))
			}
			for _, at := range outside(n - 111) {
				wantFault(t, "no home sector", k, at, api.ErrRange)
			}
		})
	}
}

// TestP1102GetOfRoom asks that sector 1 has the committed Room, whatever is in use.
func TestP1102GetOfRoom(t *testing.T) {
	_, k := filled(t, api.Least, "abc")
	wantNew(t, "New", k, full('d'), 5)
	wantGet(t, "ahead", k, 1, roomOf(t, fewest, 0, 1, 2, 3, 4))
	want(t, "Sync", api.OK, k.Sync())
	wantGet(t, "behind", k, 1, roomOf(t, fewest, 0, 1, 2, 3, 4, 5))
}

func TestP1102SetWrong(t *testing.T) {
	for _, n := range []int{api.Least, 222, api.Sectors} {
		d, k := filled(t, n, "abc")
		want(t, "Set", api.OK, k.Set(3, full('x')))
		want(t, "Drop", api.OK, k.Drop(4))
		kept(t, "Set", d, k, func() {
			for _, at := range append(outside(n-111), 1, 4, 5, n-112) {
				want(t, "no such sector", api.ErrRange, k.Set(at, full('y')))
				want(t, "no such sector, of zero bytes", api.ErrRange, k.Set(at, full(0)))
				for _, data := range sample.Misfits() {
					want(t, "ErrRange ahead of ErrArg", api.ErrRange, k.Set(at, data))
				}
			}
			for _, data := range sample.Misfits() {
				for _, at := range []int{0, 2, 3} {
					want(t, "no sector", api.ErrArg, k.Set(at, data))
				}
			}
		})
	}
}

func TestP1102SetAnyBytes(t *testing.T) {
	d, k := filled(t, api.Least, "abcdef")
	l := []string{sample.Bytes(api.Sector), full(255), strings.Repeat("\u00e4", 128), full(0)[1:] + "x", "x" + full(0)[1:], strings.Repeat("\u20ac", 85) + "x"}
	for at, data := range l {
		want(t, "Set", api.OK, k.Set(2+at, data))
	}
	for at, data := range l {
		wantGet(t, "any bytes", k, 2+at, data)
	}
	want(t, "Sync", api.OK, k.Sync())
	for at, data := range l {
		wantGet(t, "committed", k, 2+at, data)
		wantGet(t, "opened", opened(t, d), 2+at, data)
	}
}

// P1102: New.

func TestP1102New(t *testing.T) {
	d, k := formatted(t, api.Least)
	wantNew(t, "the first", k, full('a'), 2)
	wantDesk(t, "the first", k, "0Ra", 1, 2)
	wantRead(t, "not committed", k, 2, full(0))
	wantNew(t, "the second", k, full('b'), 3)
	wantDesk(t, "the second", k, "0Rab", 1, 2, 3)
	want(t, "Sync", api.OK, k.Sync())
	wantNew(t, "the third", k, full('c'), 4)
	wantDesk(t, "the third", k, "0Rabc", 1, 4)
	wantDesk(t, "opened", opened(t, d), "0Rab")
	want(t, "Set", api.OK, k.Set(4, full('d')))
	wantDesk(t, "Set of what is new", k, "0Rabd", 1, 4)
}

func TestP1102NewTillFull(t *testing.T) {
	for _, n := range []int{api.Least, 141, 250, api.Sectors} {
		d, k := formatted(t, n)
		for at := 2; at < n-111; at++ {
			wantNew(t, "New", k, sample.Other(at, n), at)
			if len(k.Dirty()) == api.MaxTx {
				want(t, "Sync", api.OK, k.Sync())
			}
		}
		kept(t, "full", d, k, func() {
			wantNoNew(t, "full", k, full('x'), api.ErrFull)
			wantNoNew(t, "ErrArg ahead of ErrFull", k, "short", api.ErrArg)
		})
		want(t, "Sync", api.OK, k.Sync())
		again := opened(t, d)
		wantNoNew(t, "opened", again, full('x'), api.ErrFull)
		for at := 2; at < n-111; at++ {
			wantGet(t, "opened", again, at, sample.Other(at, n))
		}
		want(t, "Drop", api.OK, k.Drop(n-112, 5, 7))
		for _, at := range []int{5, 7, n - 112} {
			wantNew(t, "behind a Drop", k, full('x'), at)
		}
		wantNoNew(t, "full again", k, full('x'), api.ErrFull)
		wantDirty(t, "full again", k, 5, 7, n-112)
	}
}

func TestP1102NewWrong(t *testing.T) {
	d, k := filled(t, api.Least, "abc")
	want(t, "Set", api.OK, k.Set(3, full('x')))
	kept(t, "New", d, k, func() {
		for _, data := range sample.Misfits() {
			wantNoNew(t, "no sector", k, data, api.ErrArg)
		}
	})
	wantNew(t, "behind", k, full('y'), 5)
}

// P1102: Drop.

func TestP1102Drop(t *testing.T) {
	d, k := filled(t, api.Least, "abcdefgh")
	kept(t, "of none", d, k, func() {
		want(t, "of none", api.OK, k.Drop())
		want(t, "of none", api.OK, k.Drop([]int{}...))
	})
	want(t, "of one", api.OK, k.Drop(4))
	wantDesk(t, "of one", k, "0Rab-defgh", 1)
	wantGet(t, "not in use", k, 4, full('c'))
	want(t, "of several", api.OK, k.Drop(9, 2, 7))
	wantDesk(t, "of several", k, "0R-b-de-g", 1)
	wantDesk(t, "not committed", opened(t, d), "0Rabcdefgh")
	want(t, "Sync", api.OK, k.Sync())
	wantDesk(t, "committed", k, "0R-b-de-g")
	wantDesk(t, "opened", opened(t, d), "0R-b-de-g")
	want(t, "of all", api.OK, k.Drop(8, 6, 5, 3))
	wantDesk(t, "of all", k, "0R", 1)
}

// TestP1102DropOfDesk asks that what is on the desk of a sector goes with it, and no other.
func TestP1102DropOfDesk(t *testing.T) {
	_, k := filled(t, api.Least, "abc")
	want(t, "Set", api.OK, k.Set(2, full('x')))
	want(t, "Set", api.OK, k.Set(3, full('y')))
	want(t, "Set", api.OK, k.Set(0, full('z')))
	wantNew(t, "New", k, full('w'), 5)
	wantDesk(t, "ahead", k, "zRxycw", 0, 1, 2, 3, 5)
	want(t, "Drop", api.OK, k.Drop(2))
	wantDesk(t, "Drop", k, "zR-ycw", 0, 1, 3, 5)
	wantGet(t, "as it was committed", k, 2, full('a'))
	want(t, "Drop of what is new", api.OK, k.Drop(5))
	wantDesk(t, "Drop of what is new", k, "zR-yc", 0, 1, 3)
	wantGet(t, "as it was committed", k, 5, full(0))
	wantNew(t, "New", k, full('v'), 2)
	wantDesk(t, "the Room as it was committed", k, "zRvyc", 0, 2, 3)
	want(t, "Sync", api.OK, k.Sync())
	wantDesk(t, "Sync", k, "zRvyc")
}

func TestP1102DropWrong(t *testing.T) {
	for _, n := range []int{api.Least, 222, api.Sectors} {
		d, k := filled(t, n, "abcdef")
		want(t, "Set", api.OK, k.Set(3, full('x')))
		want(t, "Set", api.OK, k.Set(0, full('z')))
		wantNew(t, "New", k, full('y'), 8)
		want(t, "Drop", api.OK, k.Drop(5))
		kept(t, "Drop", d, k, func() {
			for _, at := range append(outside(n-111), 0, 1, 5, 9, n-112) {
				want(t, "one", api.ErrRange, k.Drop(at))
				want(t, "the first", api.ErrRange, k.Drop(at, 2, 3, 8))
				want(t, "one within", api.ErrRange, k.Drop(2, at, 3, 8))
				want(t, "the last", api.ErrRange, k.Drop(8, 3, 2, at))
				want(t, "twice", api.ErrRange, k.Drop(at, at))
			}
			for _, l := range [][]int{{2, 2}, {3, 3}, {8, 8}, {2, 3, 2}, {2, 3, 3, 4}, {2, 3, 4, 8, 3}, {2, 2, 2}} {
				want(t, "twice", api.ErrRange, k.Drop(l...))
			}
		})
		want(t, "behind", api.OK, k.Drop(2, 3, 8, 4))
		wantDesk(t, "behind", k, "zR----ef"[:8], 0, 1)
	}
}

// P1102: Room.

func TestP1102Room(t *testing.T) {
	d, k := filled(t, api.Least, "abc")
	kept(t, "Room", d, k, func() {
		r := k.Room()
		r.Take()
		r.Give(0, 1, 2)
		if other := k.Room(); other == r || !slices.Equal(other.All(), upTo(0, 5)) || other.Free() != fewest-5 {
			t.Errorf("a Room of which another one was changed: %v", other.All())
		}
	})
	r := k.Room()
	wantNew(t, "New", k, full('d'), 5)
	want(t, "Drop", api.OK, k.Drop(2))
	want(t, "Sync", api.OK, k.Sync())
	if !slices.Equal(r.All(), upTo(0, 5)) {
		t.Errorf("a Room behind later calls: %v", r.All())
	}
	wantUsed(t, "Room", k, 0, 1, 3, 4, 5)
}

// P1102: Keep.

func TestP1102Keep(t *testing.T) {
	d, k := filled(t, api.Least, "abcdef")
	want(t, "of some", api.OK, k.Keep(5, 3))
	wantDesk(t, "of some", k, "0R-b-d", 1)
	for at, b := range []byte("abcdef") {
		wantGet(t, "as it was committed", k, 2+at, full(b))
	}
	want(t, "of all", api.OK, k.Keep(2, 3, 4, 5, 6, 7))
	wantDesk(t, "the Room as it was committed", k, "0Rabcdef")
	want(t, "of 0 and 1, too", api.OK, k.Keep(0, 3, 1))
	wantDesk(t, "of 0 and 1, too", k, "0R-b", 1)
	want(t, "of one twice", api.OK, k.Keep(4, 4, 0, 0, 4))
	wantDesk(t, "of one twice", k, "0R--c", 1)
	want(t, "of none", api.OK, k.Keep())
	wantDesk(t, "of none", k, "0R", 1)
	want(t, "of none", api.OK, k.Keep([]int{}...))
	wantDesk(t, "not committed", opened(t, d), "0Rabcdef")
	want(t, "Sync", api.OK, k.Sync())
	wantDesk(t, "committed", opened(t, d), "0R")
	want(t, "of those that are not in use", api.OK, k.Keep(28, 6))
	wantDesk(t, "of those that are not in use", k, "0R----e---------------------0", 1)
	wantNew(t, "New", k, full('x'), 2)
	want(t, "Set", api.OK, k.Set(28, full('y')))
	wantDesk(t, "Set", k, "0Rx---e---------------------y", 1, 2, 28)
}

func TestP1102KeepAll(t *testing.T) {
	for _, n := range []int{api.Least, 141, 222, api.Sectors} {
		_, k := formatted(t, n)
		want(t, "all", api.OK, k.Keep(upTo(0, n-111)...))
		wantUsed(t, "all", k, upTo(0, n-111)...)
		want(t, "the last", api.OK, k.Keep(n-112))
		wantUsed(t, "the last", k, 0, 1, n-112)
	}
}

// TestP1102KeepOfDesk asks that what is on the desk stays of what is kept, and goes of all others.
func TestP1102KeepOfDesk(t *testing.T) {
	_, k := filled(t, api.Least, "abc")
	for at, b := range []byte("zRxyw") {
		if at != 1 {
			want(t, "Set", api.OK, k.Set(at, full(b)))
		}
	}
	wantNew(t, "New", k, full('v'), 5)
	wantNew(t, "New", k, full('u'), 6)
	wantDesk(t, "ahead", k, "zRxywvu", 0, 1, 2, 3, 4, 5, 6)
	want(t, "Keep", api.OK, k.Keep(3, 6, 8))
	wantDesk(t, "Keep", k, "zR-y--u-0", 0, 1, 3, 6)
	for at, b := range []byte("a-c\x00") {
		if b != '-' {
			wantGet(t, "as it was committed", k, 2+at, full(b))
		}
	}
	want(t, "Keep of none", api.OK, k.Keep())
	wantDesk(t, "Keep of none", k, "zR", 0, 1)
	want(t, "Keep of what was committed", api.OK, k.Keep(2, 3, 4))
	wantDesk(t, "Keep of what was committed", k, "zRabc", 0)
}

func TestP1102KeepWrong(t *testing.T) {
	for _, n := range []int{api.Least, 222, api.Sectors} {
		d, k := filled(t, n, "abc")
		want(t, "Set", api.OK, k.Set(3, full('x')))
		want(t, "Drop", api.OK, k.Drop(2))
		kept(t, "Keep", d, k, func() {
			for _, at := range outside(n - 111) {
				for _, l := range [][]int{{at}, {at, 3}, {3, at}, {3, 4, at, 9}, {0, 1, at}, {at, at}} {
					want(t, "no home sector", api.ErrRange, k.Keep(l...))
				}
			}
		})
	}
}

// P1102, P1103: what is handed in, and what is answered.

func TestP1102WhatIsHandedIn(t *testing.T) {
	_, k := filled(t, api.Least, "abcdef")
	spare := append(make([]int, 0, 8), 5, 3, 2, 7, 6, 5, 4, 3)
	was := slices.Clone(spare)
	want(t, "Keep", api.OK, k.Keep(spare[:4]...))
	want(t, "Drop", api.OK, k.Drop(spare[:3]...))
	want(t, "Drop", api.ErrRange, k.Drop(spare...))
	if !slices.Equal(spare, was) {
		t.Errorf("what was handed in is %v", spare)
	}
	wantUsed(t, "handed in", k, 0, 1, 7)
	clear(spare)
	wantUsed(t, "handed in, and changed", k, 0, 1, 7)
	want(t, "Set", api.OK, k.Set(7, full('x')))
	wantNew(t, "New", k, full('y'), 2)
	l := k.Dirty()
	if spare := l[:cap(l)]; len(spare) >= 3 {
		clear(spare)
	}
	wantDirty(t, "an answer that was changed", k, 1, 2, 7)
	wantDesk(t, "an answer that was changed", k, "0Ry----x", 1, 2, 7)
}

func TestP1102AnswersAreNew(t *testing.T) {
	_, k := filled(t, api.Least, "abc")
	data := full('x')
	want(t, "Set", api.OK, k.Set(2, data))
	wantNew(t, "New", k, data, 5)
	places := map[*byte]bool{unsafe.StringData(data): true}
	for range 2 {
		for _, at := range []int{2, 5, 3} {
			s, _ := k.Get(at)
			if places[unsafe.StringData(s)] {
				t.Errorf("sector %d shares its memory", at)
			}
			places[unsafe.StringData(s)] = true
		}
	}
	for _, w := range k.laid {
		if places[unsafe.StringData(w.Data)] {
			t.Errorf("sector %d is kept in memory of somebody else", w.At)
		}
	}
}

// P1103: Dirty.

func TestP1103Dirty(t *testing.T) {
	_, k := filled(t, 200, "abcdef")
	wantDirty(t, "nothing", k)
	wantNew(t, "New", k, full('x'), 8)
	wantDirty(t, "New", k, 1, 8)
	want(t, "Set", api.OK, k.Set(0, full('y')))
	want(t, "Set", api.OK, k.Set(5, full('y')))
	wantDirty(t, "Set", k, 0, 1, 5, 8)
	answer := k.Dirty()
	want(t, "Drop", api.OK, k.Drop(8))
	wantDirty(t, "the Room as it was", k, 0, 5)
	want(t, "Drop", api.OK, k.Drop(7))
	wantDirty(t, "a Room of less", k, 0, 1, 5)
	want(t, "Drop", api.OK, k.Drop(5))
	wantDirty(t, "a Room of less", k, 0, 1)
	wantNew(t, "New", k, full('z'), 5)
	wantNew(t, "New", k, full('z'), 7)
	wantDirty(t, "the Room as it was", k, 0, 5, 7)
	want(t, "Keep", api.OK, k.Keep(upTo(2, 8)...))
	wantDirty(t, "the Room as it was", k, 0, 5, 7)
	want(t, "Keep", api.OK, k.Keep(2, 3, 4, 5, 7, 9))
	wantDirty(t, "another Room of as many", k, 0, 1, 5, 7)
	want(t, "Sync", api.OK, k.Sync())
	wantDirty(t, "Sync", k)
	want(t, "Drop", api.OK, k.Drop(9))
	wantDirty(t, "another one than the last one", k, 1)
	wantNew(t, "New", k, full('z'), 6)
	wantDirty(t, "as many as ahead of it", k, 1, 6)
	if !slices.Equal(answer, []int{0, 1, 5, 8}) {
		t.Errorf("an answer behind later calls: %v", answer)
	}
}

// P1103: Mark, Back.

func TestP1103Back(t *testing.T) {
	d, k := filled(t, api.Least, "abc")
	for _, ahead := range []string{"0Rabc", "zRabcd"} {
		if ahead[0] == 'z' {
			want(t, "Set", api.OK, k.Set(0, full('z')))
			wantNew(t, "New", k, full('d'), 5)
		}
		dirty := k.Dirty()
		var m Mark
		kept(t, "Mark", d, k, func() { m = k.Mark() })
		for _, do := range []func(){
			func() {},
			func() { k.Set(2, full('x')) },
			func() { k.Set(0, full('x')) },
			func() { k.New(full('x')) },
			func() { k.Drop(3) },
			func() { k.Drop(2, 3, 4) },
			func() { k.Keep() },
			func() { k.Keep(20) },
			func() { k.Set(2, full('x')); k.Drop(2); k.New(full('y')); k.New(full('y')) },
			func() { k.Keep(); k.Set(0, full('w')); k.New(full('v')) },
		} {
			do()
			untouched(t, "Back", d, func() { k.Back(m) })
			wantDesk(t, "Back", k, ahead, dirty...)
		}
	}
}

func TestP1103BackTwice(t *testing.T) {
	_, k := filled(t, api.Least, "abc")
	want(t, "Set", api.OK, k.Set(2, full('x')))
	m := k.Mark()
	for range 3 {
		want(t, "Set", api.OK, k.Set(2, full('y')))
		wantNew(t, "New", k, full('z'), 5)
		want(t, "Drop", api.OK, k.Drop(3))
		wantDesk(t, "ahead", k, "0Ry-cz", 1, 2, 5)
		k.Back(m)
		wantDesk(t, "Back", k, "0Rxbc", 2)
		k.Back(m)
		wantDesk(t, "twice", k, "0Rxbc", 2)
	}
	wantNew(t, "New", k, full('w'), 5)
	want(t, "Sync", api.OK, k.Sync())
	wantDesk(t, "Sync behind a Back", k, "0Rxbcw")
}

// TestP1103MarksWithinMarks goes back to several Marks in each order.
func TestP1103MarksWithinMarks(t *testing.T) {
	orders := [][]int{{0, 1, 2, 3}, {3, 2, 1, 0}, {2, 0, 3, 1}, {1, 1, 3, 0}, {0, 3, 0, 3}, {2, 3, 1, 2}}
	for _, order := range orders {
		_, k := filled(t, api.Least, "abc")
		texts := []string{"0Rabc", "zRxbc", "zRxbcy", "zRx-c"}
		dirty := [][]int{nil, {0, 2}, {0, 1, 2, 5}, {0, 1, 2}}
		marks := []Mark{k.Mark()}
		want(t, "Set", api.OK, k.Set(0, full('z')))
		want(t, "Set", api.OK, k.Set(2, full('x')))
		marks = append(marks, k.Mark())
		wantNew(t, "New", k, full('y'), 5)
		marks = append(marks, k.Mark())
		want(t, "Drop", api.OK, k.Drop(3, 5))
		marks = append(marks, k.Mark(), k.Mark())
		want(t, "Keep", api.OK, k.Keep())
		for _, n := range order {
			k.Back(marks[n])
			wantDesk(t, "Back", k, texts[n], dirty[n]...)
			want(t, "behind", api.OK, k.Keep(2, 9))
			want(t, "behind", api.OK, k.Set(9, full('v')))
		}
		k.Back(marks[order[0]])
		want(t, "Sync", api.OK, k.Sync())
		wantDesk(t, "Sync", k, texts[order[0]])
	}
}

// TestP1103BackOfOtherMarks goes back to what is no Mark of this Desk.
func TestP1103BackOfOtherMarks(t *testing.T) {
	d, k := filled(t, api.Least, "abc")
	_, other := filled(t, api.Least, "def")
	twin := opened(t, d)
	var none *Desk
	want(t, "Set", api.OK, other.Set(2, full('x')))
	want(t, "Set", api.OK, twin.Set(2, full('y')))
	old := opened(t, d)
	want(t, "Sync", api.OK, old.Sync())
	want(t, "Sync", api.OK, old.Sync())
	want(t, "Set", api.OK, k.Set(3, full('z')))
	for _, m := range []Mark{{}, other.Mark(), twin.Mark(), old.Mark(), none.Mark(), new(Desk).Mark()} {
		kept(t, "of another Desk", d, k, func() { k.Back(m) })
		new(Desk).Back(m)
		none.Back(m)
	}
	m := k.Mark()
	none.Back(m)
	new(Desk).Back(m)
	twin.Back(m)
	wantDesk(t, "another Desk", twin, "0Rybc", 2)
}

// TestP1103BackBehindSync goes back to Marks of before a Sync that was done: nothing happens.
func TestP1103BackBehindSync(t *testing.T) {
	d, k := filled(t, api.Least, "abc")
	first := k.Mark()
	want(t, "Set", api.OK, k.Set(2, full('x')))
	second := k.Mark()
	want(t, "Sync", api.OK, k.Sync())
	for _, m := range []Mark{first, second} {
		kept(t, "behind a Sync", d, k, func() { k.Back(m) })
	}
	want(t, "Set", api.OK, k.Set(3, full('y')))
	third := k.Mark()
	wantNew(t, "New", k, full('z'), 5)
	for _, m := range []Mark{first, second} {
		kept(t, "behind a Sync, and more", d, k, func() { k.Back(m) })
	}
	k.Back(third)
	wantDesk(t, "a Mark of behind it", k, "0Rxyc", 3)
	k.Back(first)
	wantDesk(t, "a Mark of before it", k, "0Rxyc", 3)
	want(t, "Sync", api.OK, k.Sync())
	kept(t, "behind one more", d, k, func() { k.Back(third) })
	fourth := k.Mark()
	want(t, "of nothing", api.OK, k.Sync())
	want(t, "Set", api.OK, k.Set(2, full('w')))
	kept(t, "behind a Sync of nothing", d, k, func() { k.Back(fourth) })
}

// TestP1103BackAndCommits asks that what the Wal committed since a Mark stays.
func TestP1103BackAndCommits(t *testing.T) {
	_, k := filled(t, api.Least, "abc")
	want(t, "Set", api.OK, k.Set(2, full('x')))
	m := k.Mark()
	want(t, "Commit", api.OK, k.Commit(put(3, 'y')))
	k.Back(m)
	wantDesk(t, "Back", k, "0Rxyc", 2)
	wantCounts(t, "Back", k, 3, true, 3)
}

// P1103: Sync.

func TestP1103Sync(t *testing.T) {
	d, k := filled(t, api.Least, "abcdef")
	want(t, "Set", api.OK, k.Set(6, full('x')))
	want(t, "Set", api.OK, k.Set(0, full('y')))
	wantNew(t, "New", k, full('z'), 8)
	want(t, "Drop", api.OK, k.Drop(3))
	want(t, "Set", api.OK, k.Set(4, full('w')))
	want(t, "Sync", api.OK, k.Sync())
	wantDesk(t, "Sync", k, "yRa-wdxfz")
	wantCounts(t, "Sync", k, 3, true, 3)
	wantRead(t, "the Room", k, 1, roomOf(t, fewest, 0, 1, 2, 4, 5, 6, 7, 8))
	wantDesk(t, "opened", opened(t, d), "yRa-wdxfz")
	d.Crash()
	d.Restore()
	wantDesk(t, "opened behind a loss of power", opened(t, d), "yRa-wdxfz")
	for _, at := range []int{0, 2, 4, 8} {
		got, _ := k.Get(at)
		wantRead(t, "committed", k, at, got)
	}
}

func TestP1103SyncOfNothing(t *testing.T) {
	d, k := filled(t, api.Least, "abc")
	kept(t, "of nothing", d, k, func() {
		want(t, "of nothing", api.OK, k.Sync())
		want(t, "of nothing", api.OK, k.Sync())
	})
	m := k.Mark()
	want(t, "Set", api.OK, k.Set(2, full('x')))
	wantNew(t, "New", k, full('y'), 5)
	k.Back(m)
	kept(t, "behind a Back", d, k, func() { want(t, "of nothing", api.OK, k.Sync()) })
	wantNew(t, "New", k, full('y'), 5)
	want(t, "Drop", api.OK, k.Drop(5))
	kept(t, "the Room as it was", d, k, func() { want(t, "of nothing", api.OK, k.Sync()) })
	d.Crash()
	want(t, "of nothing, without power", api.OK, k.Sync())
	want(t, "Bad", api.OK, k.Bad())
}

// TestP1103SyncActs asks for what a Sync writes and flushes, in its order.
func TestP1103SyncActs(t *testing.T) {
	d, _ := filled(t, api.Least, "abcdef")
	rm := func(used ...int) api.Write { return api.Write{At: 1, Data: roomOf(t, fewest, used...)} }
	for _, c := range []struct {
		do    func(k *Desk)
		wrote []api.Write
	}{
		{func(k *Desk) { k.Set(7, full('x')) }, []api.Write{put(7, 'x')}},
		{func(k *Desk) { k.Set(7, full('x')); k.Set(0, full('y')); k.Set(7, full('z')) }, []api.Write{put(0, 'y'), put(7, 'z')}},
		{func(k *Desk) { k.New(full('x')) }, []api.Write{rm(0, 1, 2, 3, 4, 5, 6, 7, 8), put(8, 'x')}},
		{func(k *Desk) { k.Drop(7, 2) }, []api.Write{rm(0, 1, 3, 4, 5, 6)}},
		{func(k *Desk) { k.Set(2, full('x')); k.Drop(2) }, []api.Write{rm(0, 1, 3, 4, 5, 6, 7)}},
		{func(k *Desk) { k.Drop(3); k.New(full('x')) }, []api.Write{put(3, 'x')}},
		{func(k *Desk) { k.Keep(); k.Set(0, full('w')) }, []api.Write{put(0, 'w'), rm(0, 1)}},
		{func(k *Desk) { k.Keep(9, 28); k.Set(28, full('w')) }, []api.Write{rm(0, 1, 9, 28), put(28, 'w')}},
		{func(k *Desk) { m := k.Mark(); k.Set(2, full('x')); k.Back(m); k.Set(3, full('b')) }, []api.Write{put(3, 'b')}},
	} {
		wantActs(t, "Sync", d, witness.Committed(t, 3, c.wrote...), choices(2), func(d *disk.Disk) api.Errno {
			k := opened(t, d)
			c.do(k)
			return k.Sync()
		})
	}
}

// TestP1103SyncLarge has as many sectors on the desk as one Sync may write, and more.
func TestP1103SyncLarge(t *testing.T) {
	for _, n := range []int{400, api.Sectors} {
		d, k := formatted(t, n)
		for at := range 108 {
			wantNew(t, "New", k, sample.Other(at, n), 2+at)
		}
		want(t, "108 and the Room", api.OK, k.Sync())
		for at := range 109 {
			wantNew(t, "New", k, sample.Other(at, n+1), 110+at)
		}
		wantDirty(t, "109 and the Room", k, append([]int{1}, upTo(110, 219)...)...)
		m := k.Mark()
		for _, more := range []func(){
			func() { want(t, "Set", api.OK, k.Set(0, full('z'))) },
			func() { want(t, "Set", api.OK, k.Set(100, full('z'))) },
			func() { wantNew(t, "New", k, full('z'), 219) },
		} {
			more()
			kept(t, "one more", d, k, func() {
				want(t, "one more", api.ErrLarge, k.Sync())
				want(t, "Bad", api.OK, k.Bad())
				want(t, "one more, again", api.ErrLarge, k.Sync())
			})
			if len(k.Dirty()) != 111 {
				t.Errorf("%d sectors", len(k.Dirty()))
			}
			k.Back(m) // a Sync that was told ErrLarge was not done
			wantDirty(t, "Back", k, append([]int{1}, upTo(110, 219)...)...)
		}
		want(t, "MaxTx", api.OK, k.Sync())
		k = opened(t, d)
		wantUsed(t, "opened", k, upTo(0, 219)...)
		for at := range 108 {
			wantGet(t, "opened", k, 2+at, sample.Other(at, n))
		}
		for at := range 109 {
			wantGet(t, "opened", k, 110+at, sample.Other(at, n+1))
		}
	}
}

// TestP1103SyncLargeWithoutRoom has none of it for the Room.
func TestP1103SyncLargeWithoutRoom(t *testing.T) {
	d, k := formatted(t, 500)
	want(t, "Keep", api.OK, k.Keep(upTo(2, 300)...))
	want(t, "Sync", api.OK, k.Sync())
	for at := range 110 {
		want(t, "Set", api.OK, k.Set(2+at, sample.Other(at, 1)))
	}
	before := k.Mark()
	want(t, "MaxTx", api.OK, k.Sync())
	kept(t, "a Mark of before it", d, k, func() { k.Back(before) })
	for at := range 110 {
		want(t, "Set", api.OK, k.Set(112+at, sample.Other(at, 2)))
	}
	tooMany := func(n int) {
		t.Helper()
		if len(k.Dirty()) != n {
			t.Errorf("%d sectors, not %d", len(k.Dirty()), n)
		}
		want(t, "too many", api.ErrLarge, k.Sync())
	}
	wantNew(t, "New", k, full('x'), 300)
	tooMany(112)
	want(t, "Drop", api.OK, k.Drop(300)) // so that the Room is as it was, too: two less
	want(t, "Set", api.OK, k.Set(2, full('x')))
	tooMany(111)
	want(t, "Drop", api.OK, k.Drop(200, 201))
	wantDirty(t, "MaxTx", k, slices.Concat([]int{1, 2}, upTo(112, 200), upTo(202, 222))...)
	want(t, "MaxTx", api.OK, k.Sync())
	wantUsed(t, "opened", opened(t, d), append(upTo(0, 200), upTo(202, 300)...)...)
}

// worked tells a Desk of a disk, on which is a new sector, a dropped one, and a changed one.
func worked(t *testing.T, d *disk.Disk) *Desk {
	t.Helper()
	k := opened(t, d)
	wantNew(t, "worked", k, full('x'), 5)
	want(t, "worked", api.OK, k.Drop(3))
	want(t, "worked", api.OK, k.Set(4, full('y')))
	return k
}

// wantBad asks that each call of a Desk that answers an Errno answers the error that stays, and that the others go on.
func wantBad(t *testing.T, k *Desk, bad api.Errno) {
	t.Helper()
	want(t, "Bad", bad, k.Bad())
	for _, at := range []int{0, 1, 2, 4, 9, -1, 1 << 20} {
		wantFault(t, "bad", k, at, bad)
		want(t, "bad", bad, k.Set(at, full('x')))
		want(t, "bad", bad, k.Set(at, "short"))
		want(t, "bad", bad, k.Drop(at))
		want(t, "bad", bad, k.Keep(at))
	}
	wantNoNew(t, "bad", k, full('x'), bad)
	wantNoNew(t, "bad", k, "short", bad)
	want(t, "bad", bad, k.Drop())
	want(t, "bad", bad, k.Keep())
	want(t, "bad", bad, k.Sync())
	want(t, "Bad", bad, k.Bad())
}

func TestP1103Bad(t *testing.T) {
	first, _ := filled(t, api.Least, "abc")
	for n := range 12 {
		d := first.Twin()
		k := worked(t, d)
		m := k.Mark()
		wantNew(t, "New", k, full('z'), 3)
		d.Arm(n)
		want(t, "Sync", api.ErrOff, k.Sync())
		for range 2 {
			wantBad(t, k, api.ErrOff)
			wantUsed(t, "bad", k, 0, 1, 2, 3, 4, 5)
			wantDirty(t, "bad", k, 1, 3, 4, 5)
			wantCounts(t, "bad", k, 2, false, 0)
			d.Restore()
		}
		k.Back(m)
		wantUsed(t, "Back", k, 0, 1, 2, 4, 5)
		wantDirty(t, "Back", k, 1, 4, 5)
		k.Back(k.Mark())
		wantBad(t, k, api.ErrOff)
		again := opened(t, d)
		want(t, "opened", api.OK, again.Set(2, full('w')))
		want(t, "opened", api.OK, again.Sync())
		wantBad(t, k, api.ErrOff)
		wantGet(t, "opened", again, 2, full('w'))
	}
}

// TestP1103BadOfSyncAlone asks that what Get tells of a disk without power does not stay.
func TestP1103BadOfSyncAlone(t *testing.T) {
	d, k := filled(t, api.Least, "abc")
	want(t, "Set", api.OK, k.Set(2, full('x')))
	d.Crash()
	wantFault(t, "off", k, 3, api.ErrOff)
	wantFault(t, "off", k, fewest, api.ErrRange)
	wantGet(t, "on the desk", k, 2, full('x'))
	want(t, "Bad", api.OK, k.Bad())
	want(t, "Set", api.OK, k.Set(3, full('y')))
	want(t, "Set", api.ErrRange, k.Set(1, full('y')))
	wantNew(t, "New", k, full('z'), 5)
	want(t, "Drop", api.OK, k.Drop(4))
	m := k.Mark()
	wantDirty(t, "off", k, 1, 2, 3, 5)
	d.Restore()
	wantDesk(t, "restored", k, "0Rxy-z", 1, 2, 3, 5)
	want(t, "Sync", api.OK, k.Sync())
	k.Back(m)
	wantDesk(t, "Sync", k, "0Rxy-z")
	want(t, "Set", api.OK, k.Set(2, full('w')))
	d.Crash()
	want(t, "Sync without power", api.ErrOff, k.Sync())
	d.Restore()
	wantBad(t, k, api.ErrOff)
}

// TestP1103LastSeq has a head behind which no other one can be: nothing was written, so nothing stays.
func TestP1103LastSeq(t *testing.T) {
	d := headed(t, api.Least, lay(t, head.Head{Seq: 1<<40 - 1}), "")
	k := format(t, d)
	wantCounts(t, "the last one", k, 1<<40, true, 1)
	kept(t, "of nothing", d, k, func() { want(t, "of nothing", api.OK, k.Sync()) })
	wantNew(t, "New", k, full('x'), 2)
	m := k.Mark()
	kept(t, "one more", d, k, func() { want(t, "one more", api.ErrArg, k.Sync()) })
	want(t, "Set", api.OK, k.Set(2, full('y')))
	k.Back(m)
	wantDesk(t, "Back", k, "0Rx", 1, 2)
}

// TestP1103SyncOfWalThatIsDown has a Wal of which a Commit of its own failed.
func TestP1103SyncOfWalThatIsDown(t *testing.T) {
	d, k := filled(t, 300, "abc")
	d.Arm(0)
	want(t, "Commit", api.ErrOff, k.Commit(put(2, 'x')))
	d.Restore()
	want(t, "Bad", api.OK, k.Bad())
	wantFault(t, "down", k, 2, api.ErrOff)
	m := k.Mark()
	for at := range 110 {
		wantNew(t, "down", k, full('y'), 5+at)
	}
	want(t, "ErrLarge ahead of ErrOff", api.ErrLarge, k.Sync())
	want(t, "Bad", api.OK, k.Bad())
	k.Back(m)
	want(t, "Sync", api.ErrOff, k.Sync())
	wantBad(t, k, api.ErrOff)
}

// TestP1103SyncPower lets the power go at each act of a Sync: opened again the disk has all of it, or nothing.
func TestP1103SyncPower(t *testing.T) {
	first, _ := filled(t, api.Least, "abc")
	for n := range 14 {
		for _, keep := range choices(4) {
			d, told := broken(first, n, keep, func(d *disk.Disk) api.Errno {
				k := worked(t, d)
				e := k.Sync()
				want(t, "Bad", e, k.Bad())
				return e
			})
			if (told == api.OK) != (n >= 12) {
				t.Errorf("the power goes at %d: told %d", n, told)
			}
			for m := range 5 {
				for _, other := range choices(3) {
					c, _ := broken(d, m, other, func(d *disk.Disk) api.Errno { _, e := Open(d); return e })
					k := opened(t, c)
					behind := k.Room().Used(5)
					if behind {
						wantDesk(t, "as behind it", k, "0Ra-yx")
						wantNew(t, "New", k, full('q'), 3)
					} else {
						wantDesk(t, "as ahead of it", k, "0Rabc")
						wantNew(t, "New", k, full('q'), 5)
					}
					if told == api.OK && !behind {
						t.Error("told OK, and as ahead of it")
					}
					want(t, "it goes on", api.OK, k.Sync())
				}
			}
		}
	}
}

// TestP1103SyncPowerMaxTx does so with as many sectors as there may be.
func TestP1103SyncPowerMaxTx(t *testing.T) {
	first, k := formatted(t, 300)
	want(t, "Keep", api.OK, k.Keep(upTo(2, 120)...))
	for at := range 108 {
		want(t, "Set", api.OK, k.Set(2+at, sample.Other(at, 1)))
	}
	want(t, "Sync", api.OK, k.Sync())
	ahead := witness.Home(first)
	var l []api.Write
	used := upTo(0, 100)
	for at := range 90 {
		l = append(l, api.Write{At: 10 + at, Data: sample.Other(at, 2)})
	}
	for at := range 19 {
		l = append(l, api.Write{At: 100 + at, Data: sample.Other(at, 3)})
		used = append(used, 100+at)
	}
	behind := witness.Becomes(ahead, append(l, api.Write{At: 1, Data: roomOf(t, 189, used...)})...)
	for n := range 226 {
		for m, keep := range sample.Somes(110) {
			d, told := broken(first, n, keep, func(d *disk.Disk) api.Errno {
				k := opened(t, d)
				want(t, "Drop", api.OK, k.Drop(upTo(100, 120)...))
				for _, w := range l[:90] {
					want(t, "Set", api.OK, k.Set(w.At, w.Data))
				}
				for _, w := range l[90:] {
					wantNew(t, "New", k, w.Data, w.At)
				}
				return k.Sync()
			})
			want(t, "the power goes", api.ErrOff, told)
			d, _ = broken(d, (7*n+19*m)%114, sample.Somes(110)[(n+m)%6], func(d *disk.Disk) api.Errno { _, e := Open(d); return e })
			k := opened(t, d)
			got := witness.Home(d)
			if got != ahead && got != behind {
				t.Fatalf("the power goes at %d: neither as ahead nor as behind", n)
			}
			if n := len(k.Room().All()); n != 120 && got == ahead || n != 119 && got == behind {
				t.Errorf("%d sectors are in use", n)
			}
		}
	}
}

// P1103: a nil Desk.

// wantNothing asks that a Desk answers ErrArg, and nothing.
func wantNothing(t *testing.T, k *Desk) {
	t.Helper()
	for _, at := range []int{0, 1, 2, -1, 28, math.MaxInt} {
		wantFault(t, "none", k, at, api.ErrArg)
		want(t, "none", api.ErrArg, k.Set(at, full('x')))
		want(t, "none", api.ErrArg, k.Drop(at))
		want(t, "none", api.ErrArg, k.Keep(at))
	}
	want(t, "none", api.ErrArg, k.Set(2, ""))
	wantNoNew(t, "none", k, full('x'), api.ErrArg)
	wantNoNew(t, "none", k, "", api.ErrArg)
	want(t, "none", api.ErrArg, k.Drop())
	want(t, "none", api.ErrArg, k.Keep())
	want(t, "none", api.ErrArg, k.Sync())
	want(t, "none", api.ErrArg, k.Bad())
	k.Back(k.Mark())
	k.Back(Mark{})
	wantDirty(t, "none", k)
	if r := k.Room(); r != nil {
		t.Errorf("none: a Room of %d", r.Size())
	}
}

func TestP1103Nil(t *testing.T) {
	var k *Desk
	wantNothing(t, k)
	if k.Mark() != (Mark{}) {
		t.Error("none: a Mark")
	}
	d, other := filled(t, api.Least, "abc")
	k.Back(other.Mark())
	kept(t, "of none", d, other, func() { other.Back(k.Mark()) })
}

// TestP1103Zero has a Desk that was not made by Format or Open: it is as none.
func TestP1103Zero(t *testing.T) {
	wantNothing(t, new(Desk))
	d, other := filled(t, api.Least, "abc")
	kept(t, "with a Wal alone", d, other, func() { wantNothing(t, &Desk{Wal: other.Wal}) })
}

// P1101 to P1103, all together.

// model is a Desk told by lists.
type model struct {
	home []string // what is committed
	in   []bool   // is it in use, committed?
	use  []bool   // is it in use?
	laid []string // what is on the desk; "" of nothing
}

// copyOf tells another model alike.
func (m model) copyOf() model {
	return model{slices.Clone(m.home), slices.Clone(m.in), slices.Clone(m.use), slices.Clone(m.laid)}
}

// dirty tells what a Sync would write.
func (m model) dirty() []int {
	var l []int
	for at, s := range m.laid {
		if s != "" || at == 1 && !slices.Equal(m.in, m.use) {
			l = append(l, at)
		}
	}
	return l
}

// synced tells it behind a Sync.
func (m model) synced(t *testing.T) model {
	c := m.copyOf()
	for at, s := range c.laid {
		if s != "" {
			c.home[at] = s
		}
	}
	c.in = slices.Clone(c.use)
	c.home[1] = roomOf(t, len(c.use), c.used()...)
	c.laid = make([]string, len(c.home))
	return c
}

// used tells the sectors in use.
func (m model) used() []int {
	var l []int
	for at, is := range m.use {
		if is {
			l = append(l, at)
		}
	}
	return l
}

// drop gives sectors back, if each may be.
func (m *model) drop(l []int) api.Errno {
	c := m.copyOf()
	for _, at := range l {
		if at < 2 || at >= len(c.use) || !c.use[at] {
			return api.ErrRange
		}
		c.use[at], c.laid[at] = false, ""
	}
	*m = c
	return api.OK
}

// keep lets 0, 1 and l be in use.
func (m *model) keep(l []int) api.Errno {
	c := m.copyOf()
	c.use = make([]bool, len(c.use))
	for _, at := range append([]int{0, 1}, l...) {
		if at < 0 || at >= len(c.use) {
			return api.ErrRange
		}
		c.use[at] = true
	}
	for at, is := range c.use {
		if !is {
			c.laid[at] = ""
		}
	}
	*m = c
	return api.OK
}

// take tells the sector of a New.
func (m *model) take(data string) (int, api.Errno) {
	at := slices.Index(m.use, false)
	switch {
	case len(data) != api.Sector:
		return 0, api.ErrArg
	case at < 0:
		return 0, api.ErrFull
	}
	m.use[at], m.laid[at] = true, data
	return at, api.OK
}

// set writes a sector.
func (m *model) set(at int, data string) api.Errno {
	switch {
	case at < 0 || at == 1 || at >= len(m.use) || !m.use[at]:
		return api.ErrRange
	case len(data) != api.Sector:
		return api.ErrArg
	}
	m.laid[at] = data
	return api.OK
}

// run is a Desk, its disk, its model, and Marks of both.
type run struct {
	t     *testing.T
	d     *disk.Disk
	k     *Desk
	m     model
	marks []Mark
	were  []model
	old   int // as many of marks are of before a Sync that was done
	x     uint32
}

// next draws a number.
func (r *run) next(below int) int {
	r.x = r.x*1664525 + 1013904223
	return int(r.x>>8) % below
}

// some tells sectors, most of which are home sectors.
func (r *run) some(n int) []int {
	l := make([]int, r.next(n))
	for k := range l {
		l[k] = 2 + r.next(r.k.Size()-2)
		if r.next(40) == 0 {
			l[k] = r.next(r.k.Size()+6) - 3
		}
	}
	return l
}

// data tells a sector, or now and then what is none.
func (r *run) data() string {
	if r.next(30) == 0 {
		return sample.Bytes(r.next(300))
	}
	return sample.Other(r.next(1000), r.next(1000))
}

// step does something, and asks for the same of the Desk and of the model.
func (r *run) step() {
	switch r.next(12) {
	case 0, 1, 2:
		data := r.data()
		at, e := r.k.New(data)
		at2, e2 := r.m.take(data)
		if at != at2 || e != e2 {
			r.t.Errorf("New: %d, %d, not %d, %d", at, e, at2, e2)
		}
	case 3, 4:
		at, data := r.next(r.k.Size()+4)-2, r.data()
		want(r.t, "Set", r.m.set(at, data), r.k.Set(at, data))
	case 5, 6:
		l := r.some(4)
		want(r.t, "Drop", r.m.drop(l), r.k.Drop(l...))
	case 7:
		if r.next(5) == 0 {
			l := r.some(r.k.Size())
			want(r.t, "Keep", r.m.keep(l), r.k.Keep(l...))
		}
	case 8:
		r.marks, r.were = append(r.marks, r.k.Mark()), append(r.were, r.m.copyOf())
	case 9, 10:
		if len(r.marks) > 0 {
			n := r.next(len(r.marks))
			r.k.Back(r.marks[n])
			if n >= r.old {
				r.m = r.were[n].copyOf()
			}
		}
	case 11:
		if r.next(3) == 0 {
			r.sync()
		}
	}
}

// sync lets the power go in a Sync now and then; if it went, the disk is opened again.
func (r *run) sync() {
	if r.next(3) == 0 {
		r.d.Arm(r.next(60), r.next(2), r.next(2), r.next(2), r.next(2), r.next(2))
	}
	dirty, behind := r.m.dirty(), r.m.synced(r.t)
	e := r.k.Sync()
	r.d.Arm(-1)
	switch {
	case e == api.ErrLarge && len(dirty) > api.MaxTx:
	case e == api.OK && len(dirty) <= api.MaxTx:
		if len(dirty) > 0 {
			r.m = behind
		}
		r.old = len(r.marks)
	case e == api.ErrOff && !r.d.On():
		r.d.Restore()
		r.k = opened(r.t, r.d)
		ahead := r.m.home
		r.m.laid, r.m.use = make([]string, len(ahead)), slices.Clone(r.m.in)
		if b, _ := r.k.Read(dirty[0]); b == behind.home[dirty[0]] {
			r.m = behind
		}
		r.marks, r.were, r.old = nil, nil, 0
	default:
		r.t.Errorf("Sync of %d sectors: %d", len(dirty), e)
	}
}

// look asks for the same of the Desk and of the model.
func (r *run) look() {
	for at := range r.k.Size() {
		data := r.m.laid[at]
		if data == "" {
			data = r.m.home[at]
		}
		wantGet(r.t, "run", r.k, at, data)
		wantRead(r.t, "run", r.k, at, r.m.home[at])
	}
	wantUsed(r.t, "run", r.k, r.m.used()...)
	wantDirty(r.t, "run", r.k, r.m.dirty()...)
	want(r.t, "run", api.OK, r.k.Bad())
}

func TestP1101ToP1103Run(t *testing.T) {
	for _, n := range []int{api.Least, 150, 260, 420} {
		d, k := formatted(t, n)
		m := model{home: make([]string, n-111), in: make([]bool, n-111), use: make([]bool, n-111), laid: make([]string, n-111)}
		for at := range m.home {
			m.home[at] = full(0)
		}
		m.use[0], m.use[1] = true, true
		r := &run{t: t, d: d, k: k, m: m.synced(t), x: uint32(n)}
		for i := range 4000 {
			r.step()
			if i%9 == 0 {
				r.look()
			}
			if t.Failed() {
				t.Fatalf("of %d sectors, step %d", n, i)
			}
		}
	}
}
