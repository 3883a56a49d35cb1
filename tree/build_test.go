package tree_test

import (
	"slices"
	"testing"
	"unsafe"

	"masonry/api"
	"masonry/desk"
	"masonry/entries"
	"masonry/sample"
	"masonry/tree"
	"masonry/witness"
)

// built tells what Build makes of entries, on the Desk of h, beside what is in use there.
func built(t *testing.T, what string, h *entries.Held, gen int, l ...api.Entry) *entries.Held {
	t.Helper()
	x := *h
	x.Others = h.Desk.Room().All()
	writes, dirty := h.Disk.Writes(), h.Disk.Dirty()
	root, e := tree.Build(h.Desk, gen, l...)
	want(t, what+": Build", api.OK, e)
	if h.Disk.Writes() != writes || h.Disk.Dirty() != dirty {
		t.Errorf("%s: something was written", what)
	}
	x.Gen, x.Root, x.List = gen, root, entries.Sorted(l...)
	x.Look(what)
	return &x
}

// wantNoBuild asks that Build answers the error want, and nothing, and that nothing changes.
func wantNoBuild(t *testing.T, what string, h *entries.Held, gen int, want api.Errno, l ...api.Entry) {
	t.Helper()
	kept(t, what, h.Disk, h.Desk, func() {
		t.Helper()
		wantNoRoot(t, what, h.Desk, gen, want, l...)
	})
}

// wantNoRoot asks that Build answers the error want, and nothing.
func wantNoRoot(t *testing.T, what string, k *desk.Desk, gen int, want api.Errno, l ...api.Entry) {
	t.Helper()
	if root, e := tree.Build(k, gen, l...); root != 0 || e != want {
		t.Errorf("%s: Build of %d entries, the form %d: %d, %d, not error %d", what, len(l), gen, root, e, want)
	}
}

// numbers tells numbers of entries, at many of which a tree of as few parts as may be gets one more, or is deeper.
func numbers() []int {
	l := append(sample.UpTo(0, 50), 107, 108, 109, 110, 215, 216, 217, 218, 647, 648, 649, 863, 864, 865, 1080, 1295, 1296, 1297, 1298)
	return append(l, most-2, most-1, most)
}

func TestP1802Build(t *testing.T) {
	for n, count := range numbers() {
		for m, l := range ordersOf(mixed(count)) {
			gen := 1 + (n+m)%3
			h := kind(t).Empty(t, api.Sectors, gen)
			x := built(t, "Build", h, gen, l...)
			d, e := tree.Depth(h.Desk, x.Root)
			if e != api.OK || (d == 0) != (count == 0) || (d == 1) != (count > 0 && count < 7) {
				t.Errorf("Depth: %d, %d of %d entries", d, e, count)
			}
			if m == 0 && count > 0 {
				x.Drops("behind Build", l[:count/3+1]...)
				x.Adds("behind Build", l[:count/3]...)
				x.Drops("behind Build", x.List...)
			}
		}
	}
}

// TestP1802BuildEach drops, and adds, each entry of trees that were built.
func TestP1802BuildEach(t *testing.T) {
	for gen := 1; gen <= 3; gen++ {
		for _, l := range [][]api.Entry{mixed(19), entries.Alike(1, 3, 43), entries.OneHash(2, 65535, 59), entries.OnePlace(1, 1999, 37)} {
			h := built(t, "Build", kind(t).Empty(t, 200, gen), gen, l...)
			for _, x := range l {
				m := h.Desk.Mark()
				was := *h
				h.Drops("each", x)
				h.NoDrop("each, again", api.ErrNone, x)
				h.Adds("each", x)
				h.NoAdd("each, again", api.ErrDup, x)
				h.Desk.Back(m)
				*h = was
			}
		}
	}
}

// TestP1802BuildAsAdds asks that a tree that was built and one of Adds tell the same.
func TestP1802BuildAsAdds(t *testing.T) {
	for gen := 1; gen <= 3; gen++ {
		for n := gen; n < 70; n += 3 {
			l := slices.Concat(mixed(n), entries.Alike(2, 9, n%13))
			one, two := built(t, "Build", kind(t).Empty(t, 200, gen), gen, l...), kind(t).Empty(t, 200, gen)
			for _, x := range l {
				two.Put("Adds", x)
			}
			two.Look("Adds")
			a, _ := tree.All(one.Desk, one.Root)
			b, _ := tree.All(two.Desk, two.Root)
			if !slices.Equal(a, b) {
				t.Errorf("%d entries built, %d added", len(a), len(b))
			}
		}
	}
}

func TestP1802BuildWrong(t *testing.T) {
	good := entries.Crowd(12)
	for gen := 1; gen <= 3; gen++ {
		for _, h := range []*entries.Held{kind(t).Empty(t, api.Least, gen), kind(t).With(t, api.Least, gen, mixed(20)...)} {
			for _, x := range entries.Wrong() {
				wantNoBuild(t, "alone", h, gen, api.ErrArg, x)
				wantNoBuild(t, "first", h, gen, api.ErrArg, x, good[0])
				wantNoBuild(t, "last", h, gen, api.ErrArg, append(slices.Clone(good), x)...)
				wantNoBuild(t, "among others", h, gen, api.ErrArg, good[0], x, good[1])
				wantNoBuild(t, "twice", h, gen, api.ErrArg, x, x)
				wantNoBuild(t, "ahead of ErrDup", h, gen, api.ErrArg, good[0], good[0], x)
			}
			for _, form := range entries.NoForms() {
				for _, l := range [][]api.Entry{nil, {}, good, {good[0], good[0]}, {entries.Wrong()[0]}} {
					wantNoBuild(t, "no form", h, form, api.ErrArg, l...)
				}
			}
			for n, x := range good {
				wantNoBuild(t, "twice", h, gen, api.ErrDup, append(slices.Clone(good), x)...)
				wantNoBuild(t, "twice", h, gen, api.ErrDup, x, x)
				wantNoBuild(t, "each twice", h, gen, api.ErrDup, slices.Concat(good[:n+1], good[:n+1])...)
			}
			h.Look("behind them")
			wantNoBuild(t, "no room", h, gen, api.ErrFull, mixed(200)...)
			built(t, "behind them", h, gen, append(good, mixed(3)...)...)
		}
	}
}

func TestP1802BuildMost(t *testing.T) {
	l := mixed(most + 50)
	h := kind(t).Empty(t, api.Sectors, 1)
	for gen := 1; gen <= 3; gen++ {
		wantNoBuild(t, "one too many", h, gen, api.ErrLong, l[:most+1]...)
		wantNoBuild(t, "many too many", h, gen, api.ErrLong, l...)
		wantNoBuild(t, "ErrDup ahead of ErrLong", h, gen, api.ErrDup, slices.Concat(l, l[20:21])...)
		wantNoBuild(t, "ErrArg ahead of ErrLong", h, gen, api.ErrArg, slices.Concat(l, entries.Wrong()[:1])...)
		wantNoBuild(t, "ErrArg ahead of both", h, gen, api.ErrArg, slices.Concat(l, l[20:21], entries.Wrong()[:1])...)
	}
	h = built(t, "just as many", h, 3, l[:most]...)
	h.NoAdd("one too many", api.ErrLong, l[most])
	h.NoAdd("ErrDup ahead of it", api.ErrDup, l[0])
	h.Drops("one", l[0])
	h.Adds("another one", l[most])
}

// TestP1802BuildNothing has Desks that are none, bad, or without power.
func TestP1802BuildNothing(t *testing.T) {
	for _, k := range []*desk.Desk{nil, {}} {
		for gen := range 5 {
			for _, l := range [][]api.Entry{nil, {}, mixed(1), mixed(20), entries.Wrong()[:1], {of(1, 2, 3, 4), of(1, 2, 3, 4)}, mixed(most + 1)} {
				wantNoRoot(t, "no Desk", k, gen, api.ErrArg, l...)
			}
		}
	}
	for gen := 1; gen <= 3; gen++ {
		h := kind(t).With(t, api.Least, gen, mixed(10)...)
		want(t, "Sync", api.OK, h.Desk.Sync())
		h.Disk.Crash()
		root, e := tree.Build(h.Desk, gen, mixed(20)...) // nothing of it is read
		want(t, "without power", api.OK, e)
		want(t, "without power", api.ErrOff, h.Desk.Sync())
		for range 2 {
			for _, l := range [][]api.Entry{nil, {}, mixed(1), mixed(20), {of(1, 2, 3, 4), of(1, 2, 3, 4)}, mixed(most + 1)} {
				wantNoBuild(t, "a bad Desk", h, gen, api.ErrOff, l...)
			}
			wantNoBuild(t, "a bad Desk", h, gen, api.ErrArg, of(1, 2, 3, 4), entries.Wrong()[0])
			wantNoBuild(t, "a bad Desk", h, 0, api.ErrArg, mixed(1)...)
			h.Disk.Restore()
		}
		h.Nothing("a bad Desk", root, api.ErrOff)
	}
}

// TestP1802BuildBeside has trees beside each other on one Desk: none touches another one.
func TestP1802BuildBeside(t *testing.T) {
	h := kind(t).Empty(t, 300, 1)
	all := []*entries.Held{}
	for n := range 12 {
		all = append(all, built(t, "beside", h, 1+n%3, mixed(20-n)...))
		if n%4 == 2 {
			want(t, "Sync", api.OK, h.Desk.Sync())
		}
	}
	used := h.Desk.Room().All()
	for _, x := range all {
		s, e := tree.Sectors(x.Desk, x.Root)
		want(t, "Sectors", api.OK, e)
		x.Others = slices.DeleteFunc(slices.Clone(used), func(at int) bool { return slices.Contains(s, at) })
		x.Look("beside")
	}
	for _, x := range all {
		root, e := tree.Drop(x.Desk, x.Gen, x.Root, x.List...)
		if root != 0 || e != api.OK {
			t.Errorf("Drop: %d, %d", root, e)
		}
	}
	witness.WantUsed(t, "all gone", h.Desk, 0, 1)
}

// TestP1802BuildHanded hands in lists that have room behind them, and prints whose memory is changed behind the call.
func TestP1802BuildHanded(t *testing.T) {
	for gen := 1; gen <= 3; gen++ {
		for _, n := range []int{1, 2, 9, 40} {
			h := kind(t).Empty(t, 200, gen)
			given := append(mixed(n), entries.Crowd(3)...)
			was := slices.Clone(given)
			x := built(t, "handed in", h, gen, given[:n]...)
			wantNoBuild(t, "handed in", h, gen, api.ErrDup, append(given[:n:n], given[0])...)
			if !slices.Equal(given, was) {
				t.Errorf("what was handed in, or its room, has changed")
			}
			clear(given)
			x.Look("handed in, and changed")
			b := []byte(was[0].Print.Sum)
			text := unsafe.String(unsafe.SliceData(b), len(b))
			was[0].Print.Sum = text
			y := built(t, "handed in", h, gen, was[:n]...)
			clear(b)
			y.List = x.List
			y.Look("handed in, and changed")
		}
	}
}

// TestP1802BuildPower lets the power go in the Sync behind a Build: opened again the disk has all of it, or nothing.
func TestP1802BuildPower(t *testing.T) {
	kind := kind(t)
	kind.Add = func(k *desk.Desk, gen, root int, l ...api.Entry) (int, api.Errno) {
		return rebuilt(k, gen, root, func(had []api.Entry) []api.Entry { return slices.Concat(had, l) })
	}
	kind.Drop = func(k *desk.Desk, gen, root int, l ...api.Entry) (int, api.Errno) {
		return rebuilt(k, gen, root, func(had []api.Entry) []api.Entry {
			return slices.DeleteFunc(had, func(x api.Entry) bool { return slices.Contains(l, x) })
		})
	}
	kind.AskPower(t)
	kind.AskNotSynced(t)
	kind.AskBack(t)
}

// rebuilt builds a tree anew of what becomes of the entries of another one, which is given back.
func rebuilt(k *desk.Desk, gen, root int, become func(l []api.Entry) []api.Entry) (int, api.Errno) {
	had, e := tree.All(k, root)
	if e != api.OK {
		return 0, e
	}
	now, e := tree.Build(k, gen, become(slices.Clone(had))...)
	if e != api.OK {
		return 0, e
	}
	_, e = tree.Drop(k, gen, root, had...)
	return now, e
}
