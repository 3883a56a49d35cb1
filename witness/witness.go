// Package witness has what tests ask of a disk, and of what stands on one, a Desk among it; the program does not call it.
package witness

import (
	"slices"
	"strings"

	"masonry/api"
	"masonry/disk"
	"masonry/head"
	"masonry/room"
)

const home = 111 // the disk's first home sector, written out: package wal is one of those that are asked

// T is a test that is told what is wrong: a *testing.T.
type T interface {
	Helper()
	Errorf(format string, l ...any)
	Fatalf(format string, l ...any)
}

// Reader is what sectors are read from.
type Reader interface {
	Read(at int) (string, api.Errno)
}

// Counter is what a Wal counts.
type Counter interface {
	Seq() int
	Up() bool
	Commits() int
}

// Desk is what is asked of a Desk.
type Desk interface {
	Counter
	Size() int
	Get(at int) (string, api.Errno)
	Room() *room.Room
	Dirty() []int
	Bad() api.Errno
}

// Made tells a new disk of n sectors.
func Made(t T, n int) *disk.Disk {
	t.Helper()
	d, e := disk.New(n)
	if e != api.OK {
		t.Fatalf("disk.New(%d): %d", n, e)
	}
	return d
}

// Headed tells a disk of n sectors that has the sector b as its head, and behind it sectors of the bytes of text, all of it safe.
func Headed(t T, n int, b, text string) *disk.Disk {
	t.Helper()
	d := Made(t, n)
	Want(t, "disk.Write", api.OK, d.Write(api.Write{At: 0, Data: b}))
	for k := range len(text) {
		Want(t, "disk.Write", api.OK, d.Write(api.Write{At: 1 + k, Data: strings.Repeat(text[k:k+1], api.Sector)}))
	}
	Want(t, "disk.Flush", api.OK, d.Flush())
	return d
}

// Lay tells a head's sector.
func Lay(t T, h head.Head) string {
	t.Helper()
	b, e := head.Lay(h)
	if e != api.OK {
		t.Fatalf("head.Lay(%v): %d", h, e)
	}
	return b
}

// Want asks that an error is the one that is wanted.
func Want(t T, what string, want, got api.Errno) {
	t.Helper()
	if got != want {
		t.Errorf("%s: %d, not %d", what, got, want)
	}
}

// WantSector asks that the sector at has data.
func WantSector(t T, what string, r Reader, at int, data string) {
	t.Helper()
	if got, e := r.Read(at); got != data || e != api.OK {
		t.Errorf("%s: sector %d: %d bytes %.8q, %d, not %.8q", what, at, len(got), got, e, data)
	}
}

// WantFault asks that reading the sector at answers the error want, and nothing.
func WantFault(t T, what string, r Reader, at int, want api.Errno) {
	t.Helper()
	if got, e := r.Read(at); got != "" || e != want {
		t.Errorf("%s: sector %d: %d bytes %.8q, %d, not error %d", what, at, len(got), got, e, want)
	}
}

// WantCounts asks for Seq, Up and Commits.
func WantCounts(t T, what string, c Counter, seq int, up bool, commits int) {
	t.Helper()
	if c.Seq() != seq || c.Up() != up || c.Commits() != commits {
		t.Errorf("%s: %d, %t, %d, not %d, %t, %d", what, c.Seq(), c.Up(), c.Commits(), seq, up, commits)
	}
}

// Sight is what is to be seen of a disk.
type Sight struct {
	Now, Safe     string // its sectors, one behind the other: as they were written last, and as they are safe
	On            bool
	Dirty, Writes int
}

// Look tells what is to be seen of a disk, which stays as it is.
func Look(d *disk.Disk) Sight {
	now, safe := d.Twin(), d.Twin()
	now.Restore()
	safe.Crash()
	safe.Restore()
	return Sight{bytesOf(now, 0), bytesOf(safe, 0), d.On(), d.Dirty(), d.Writes()}
}

// bytesOf tells all sectors of a disk from one on, one behind the other.
func bytesOf(d *disk.Disk, from int) string {
	var b strings.Builder
	b.Grow(max(0, d.Size()-from) * api.Sector)
	for at := from; at < d.Size(); at++ {
		s, _ := d.Read(at)
		b.WriteString(s)
	}
	return b.String()
}

// Home tells all home sectors of a disk, one behind the other.
func Home(d *disk.Disk) string { return bytesOf(d, home) }

// Becomes tells what home sectors are when l is written.
func Becomes(home string, l ...api.Write) string {
	b := []byte(home)
	for _, w := range l {
		copy(b[w.At*api.Sector:], w.Data)
	}
	return string(b)
}

// WantSight asks that a disk looks so.
func WantSight(t T, what string, d *disk.Disk, want Sight) {
	t.Helper()
	got := Look(d)
	if got == want {
		return
	}
	t.Errorf("%s: power %t, %d not safe, %d writes, not %t, %d, %d", what, got.On, got.Dirty, got.Writes, want.On, want.Dirty, want.Writes)
	for at := range d.Size() {
		from := at * api.Sector
		to := from + api.Sector
		if got.Now[from:to] != want.Now[from:to] || got.Safe[from:to] != want.Safe[from:to] {
			t.Errorf("%s: sector %d: %.8q, %.8q safe, not %.8q, %.8q", what, at, got.Now[from:to], got.Safe[from:to], want.Now[from:to], want.Safe[from:to])
		}
	}
}

// Untouched asks that do neither changes anything of a disk nor writes or flushes: if it did, the power would go.
func Untouched(t T, what string, d *disk.Disk, do func()) {
	t.Helper()
	before := Look(d)
	d.Arm(0)
	do()
	WantSight(t, what, d, before)
	d.Arm(-1)
}

// Act is a sector write, or a Flush.
type Act struct {
	Flush bool
	Write api.Write
}

// Flushed tells what is done to a disk when each of l is written and flushed.
func Flushed(l ...[]api.Write) []Act {
	var acts []Act
	for _, g := range l {
		for _, w := range g {
			acts = append(acts, Act{Write: w})
		}
		acts = append(acts, Act{Flush: true})
	}
	return acts
}

// Redone tells what is done to a disk when a Wal of a head that is Full is opened; l rises, and each sector is in it once.
func Redone(t T, seq int, l ...api.Write) []Act {
	t.Helper()
	var at []api.Write
	for _, w := range l {
		at = append(at, api.Write{At: home + w.At, Data: w.Data})
	}
	return Flushed(at, []api.Write{{At: 0, Data: Lay(t, head.Head{Seq: seq})}})
}

// Committed tells what is done to a disk by a Commit, behind which the head's number is seq; l rises, and each sector is in it once.
func Committed(t T, seq int, l ...api.Write) []Act {
	t.Helper()
	var copies []api.Write
	h := head.Head{Seq: seq, Full: true}
	for k, w := range l {
		copies = append(copies, api.Write{At: 1 + k, Data: w.Data})
		h.Targets = append(h.Targets, w.At)
	}
	acts := Flushed(copies, []api.Write{{At: 0, Data: Lay(t, h)}})
	return append(acts, Redone(t, seq, l...)...)
}

// Follow does to a disk what acts say.
func Follow(d *disk.Disk, acts []Act) {
	for _, a := range acts {
		if a.Flush {
			d.Flush()
		} else {
			d.Write(a.Write)
		}
	}
}

// WantActs asks that do does to a disk just what acts say: with the power going at each of them, with each choice of what is kept.
func WantActs(t T, what string, d *disk.Disk, acts []Act, keeps [][]int, do func(d *disk.Disk) api.Errno) {
	t.Helper()
	for n := range len(acts) + 2 {
		e := api.OK
		if n < len(acts) {
			e = api.ErrOff
		}
		for _, keep := range keeps {
			got, model := d.Twin(), d.Twin()
			got.Arm(n, keep...)
			model.Arm(n, keep...)
			Want(t, what, e, do(got))
			Follow(model, acts)
			WantSight(t, what, got, Look(model))
			got.Write(api.Write{At: 0, Data: strings.Repeat("z", api.Sector)}) // the disk that is armed for one act more is off behind this one, if there was no act too many or too few
			if got.On() != (n > len(acts)) {
				t.Errorf("%s: %d acts, and not %d", what, n, len(acts))
			}
		}
	}
}

// Broken does something to a Twin of a disk, with the power going at the act n or at last, and tells the Twin, which has power again, and the error.
func Broken(d *disk.Disk, n int, keep []int, do func(d *disk.Disk) api.Errno) (*disk.Disk, api.Errno) {
	c := d.Twin()
	c.Arm(n, keep...)
	e := do(c)
	c.Arm(-1)
	c.Crash(keep...)
	c.Restore()
	return c, e
}

// gets reads what Get tells.
type gets struct{ Desk }

// Read tells what Get tells.
func (g gets) Read(at int) (string, api.Errno) { return g.Get(at) }

// WantGet asks that Get tells that the sector at has data.
func WantGet(t T, what string, k Desk, at int, data string) {
	t.Helper()
	WantSector(t, what, gets{k}, at, data)
}

// WantNoGet asks that Get of the sector at answers the error want, and nothing.
func WantNoGet(t T, what string, k Desk, at int, want api.Errno) {
	t.Helper()
	WantFault(t, what, gets{k}, at, want)
}

// WantUsed asks for the sectors that are in use.
func WantUsed(t T, what string, k Desk, l ...int) {
	t.Helper()
	if got := k.Room().All(); !slices.Equal(got, l) {
		t.Errorf("%s: in use: %v, not %v", what, got, l)
	}
	if got := k.Room().Size(); got != k.Size() {
		t.Errorf("%s: a Room of %d sectors, not %d", what, got, k.Size())
	}
}

// WantDirty asks for what a Sync would write.
func WantDirty(t T, what string, k Desk, l ...int) {
	t.Helper()
	if got := k.Dirty(); !slices.Equal(got, l) {
		t.Errorf("%s: Dirty: %v, not %v", what, got, l)
	}
}

// scene is all that is to be seen of a Desk but what its Wal tells.
type scene struct {
	home        string // what Get tells of each home sector, and its error
	used, dirty string
	bad         api.Errno
}

// seen tells how a Desk looks.
func seen(k Desk) scene {
	var b strings.Builder
	for at := range k.Size() {
		s, e := k.Get(at)
		b.WriteString(s + string([]byte{byte(e)}))
	}
	return scene{b.String(), text(k.Room().All()), text(k.Dirty()), k.Bad()}
}

// text tells l as bytes.
func text(l []int) string {
	var b []byte
	for _, n := range l {
		b = append(b, byte(n), byte(n>>8))
	}
	return string(b)
}

// Kept asks that do changes nothing of a Desk, nor of its disk.
func Kept(t T, what string, d *disk.Disk, k Desk, do func()) {
	t.Helper()
	before := seen(k)
	seq, up, commits := k.Seq(), k.Up(), k.Commits()
	Untouched(t, what, d, do)
	if seen(k) != before {
		t.Errorf("%s: something has changed: %v in use, %v dirty, %d bad", what, k.Room().All(), k.Dirty(), k.Bad())
	}
	WantCounts(t, what, k, seq, up, commits)
}
