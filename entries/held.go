package entries

import (
	"slices"

	"masonry/api"
	"masonry/desk"
	"masonry/desks"
	"masonry/disk"
	"masonry/witness"
)

// Kind is a way to keep entries.
type Kind struct {
	Add, Drop func(k *desk.Desk, gen, root int, l ...api.Entry) (int, api.Errno)
	Find      func(k *desk.Desk, root int, p api.Print) ([]int, api.Errno)
	All       func(k *desk.Desk, root int) ([]api.Entry, api.Errno)
	Check     func(k *desk.Desk, gen, root int) api.Errno
	Sectors   func(k *desk.Desk, root int) ([]int, api.Errno)
	Tag       int                                                                              // of its root's chain
	Shape     func(t witness.T, what string, k *desk.Desk, gen, root int, l []api.Entry) []int // asks that its chains are as they should be, of entries in their order; where all of them stand
}

// Held is something that keeps entries, beside a list of those that it should have.
type Held struct {
	Kind
	T         witness.T
	Disk      *disk.Disk
	Desk      *desk.Desk
	Gen, Root int
	List      []api.Entry // in their order
	Others    []int       // sectors in use that are none of it, rising
}

// Empty tells one of a form that has nothing, on a new disk.
func (c Kind) Empty(t witness.T, sectors, gen int) *Held {
	t.Helper()
	d, k := desks.Formatted(t, sectors)
	return &Held{Kind: c, T: t, Disk: d, Desk: k, Gen: gen, Others: []int{0, 1}}
}

// With tells one to which entries were added.
func (c Kind) With(t witness.T, sectors, gen int, l ...api.Entry) *Held {
	t.Helper()
	h := c.Empty(t, sectors, gen)
	h.Adds("With", l...)
	return h
}

// Adds adds entries, and looks at all.
func (h *Held) Adds(what string, l ...api.Entry) {
	h.T.Helper()
	h.Put(what, l...)
	h.Look(what)
}

// Drops takes entries out, and looks at all.
func (h *Held) Drops(what string, l ...api.Entry) {
	h.T.Helper()
	h.Take(what, l...)
	h.Look(what)
}

// Put adds entries.
func (h *Held) Put(what string, l ...api.Entry) {
	h.T.Helper()
	h.do(what+": Add", h.Add, l)
	h.List = Sorted(slices.Concat(h.List, l)...)
}

// Take takes entries out.
func (h *Held) Take(what string, l ...api.Entry) {
	h.T.Helper()
	h.do(what+": Drop", h.Drop, l)
	h.List = slices.DeleteFunc(slices.Clone(h.List), func(x api.Entry) bool { return slices.Contains(l, x) })
}

// do adds entries, or takes them out, and asks that nothing is written to the disk.
func (h *Held) do(what string, do func(k *desk.Desk, gen, root int, l ...api.Entry) (int, api.Errno), l []api.Entry) {
	h.T.Helper()
	writes, dirty := h.Disk.Writes(), h.Disk.Dirty()
	root, e := do(h.Desk, h.Gen, h.Root, l...)
	h.Root = root
	witness.Want(h.T, what, api.OK, e)
	if h.Disk.Writes() != writes || h.Disk.Dirty() != dirty {
		h.T.Errorf("%s: something was written", what)
	}
}

// NoAdd asks that Add answers the error want, and nothing, and that nothing changes.
func (h *Held) NoAdd(what string, want api.Errno, l ...api.Entry) {
	h.T.Helper()
	witness.Kept(h.T, what, h.Disk, h.Desk, func() {
		h.T.Helper()
		h.WantNoRoot(what+": Add", h.Add, h.Gen, h.Root, want, l...)
	})
}

// NoDrop asks that Drop answers the error want, and nothing, and that nothing changes.
func (h *Held) NoDrop(what string, want api.Errno, l ...api.Entry) {
	h.T.Helper()
	witness.Kept(h.T, what, h.Disk, h.Desk, func() {
		h.T.Helper()
		h.WantNoRoot(what+": Drop", h.Drop, h.Gen, h.Root, want, l...)
	})
}

// WantNoRoot asks that Add or Drop answers the error want, and nothing.
func (h *Held) WantNoRoot(what string, do func(k *desk.Desk, gen, root int, l ...api.Entry) (int, api.Errno), gen, root int, want api.Errno, l ...api.Entry) {
	h.T.Helper()
	if got, e := do(h.Desk, gen, root, l...); got != 0 || e != want {
		h.T.Errorf("%s of %d entries, the form %d, root %d: %d, %d, not error %d", what, len(l), gen, root, got, e, want)
	}
}

// Look asks that all is as the list says, also what Find tells of its prints (of many, of some), and of some that are not there.
func (h *Held) Look(what string) {
	h.T.Helper()
	h.Glance(what)
	each := 1 + len(h.List)/60
	for n, x := range h.List {
		if n%each == 0 && (n == 0 || h.List[n-1].Print != x.Print) {
			h.WantFind(what, x.Print)
		}
		if n%(7*each) == 0 {
			h.WantFind(what, api.Print{Kind: x.Print.Kind, Sum: x.Print.Sum[:2] + "another print" + x.Print.Sum[15:]})
			h.WantFind(what, api.Print{Kind: 3 - x.Print.Kind, Sum: x.Print.Sum})
			h.WantFind(what, Print(3-x.Print.Kind, Hash(x.Print), 5))
		}
	}
	h.WantFind(what, Print(1, 12345, 54321))
}

// Glance asks that All, Check and Sectors tell what the list says, that the chains are as they should be, and that nothing else is in use.
func (h *Held) Glance(what string) {
	h.T.Helper()
	got, e := h.All(h.Desk, h.Root)
	if !slices.Equal(got, h.List) || e != api.OK {
		h.T.Fatalf("%s: All: %d entries, %d, not just the %d that there should be", what, len(got), e, len(h.List))
	}
	if (h.Root == 0) != (len(h.List) == 0) {
		h.T.Errorf("%s: root %d of %d entries", what, h.Root, len(h.List))
	}
	witness.Want(h.T, what+": Check", api.OK, h.Check(h.Desk, h.Gen, h.Root))
	should := slices.Sorted(slices.Values(h.Shape(h.T, what, h.Desk, h.Gen, h.Root, h.List)))
	l, e := h.Sectors(h.Desk, h.Root)
	if !slices.Equal(l, should) || e != api.OK {
		h.T.Errorf("%s: Sectors: %v, %d, not %v", what, l, e, should)
	}
	witness.WantUsed(h.T, what, h.Desk, slices.Sorted(slices.Values(slices.Concat(h.Others, should)))...)
}

// WantFind asks that Find tells the places that the list has of a print.
func (h *Held) WantFind(what string, p api.Print) {
	h.T.Helper()
	var places []int
	for n, _ := slices.BinarySearchFunc(h.List, api.Entry{Print: p}, Compare); n < len(h.List) && h.List[n].Print == p; n++ {
		places = append(places, h.List[n].At)
	}
	if got, e := h.Find(h.Desk, h.Root, p); !slices.Equal(got, places) || e != api.OK {
		h.T.Errorf("%s: Find of %d, %.8x: %v, %d, not %v", what, p.Kind, p.Sum, got, e, places)
	}
}

// Nothing asks that each call answers the error want, and nothing, of a root, and that nothing changes.
func (h *Held) Nothing(what string, root int, want api.Errno) {
	h.T.Helper()
	witness.Kept(h.T, what, h.Disk, h.Desk, func() {
		h.T.Helper()
		h.WantNothing(what, root, want)
	})
}

// WantNothing asks that each call answers the error want, and nothing, of a root.
func (h *Held) WantNothing(what string, root int, want api.Errno) {
	h.T.Helper()
	for _, l := range [][]api.Entry{nil, {}, {Of(1, 1, 1, 1)}, Mixed(9)} {
		h.WantNoRoot(what+": Add", h.Add, h.Gen, root, want, l...)
		h.WantNoRoot(what+": Drop", h.Drop, h.Gen, root, want, l...)
	}
	h.WantUnread(what, root, want)
}

// WantUnread asks that All, Find, Check and Sectors answer the error want, and nothing, of a root.
func (h *Held) WantUnread(what string, root int, want api.Errno) {
	h.T.Helper()
	h.WantNoList(what, root, want)
	for _, p := range []api.Print{{}, Print(1, 1, 1), Print(2, 65535, 1)} {
		if l, e := h.Find(h.Desk, root, p); l != nil || e != want {
			h.T.Errorf("%s: Find at %d: %v, %d, not error %d", what, root, l, e, want)
		}
	}
}

// WantNoList asks that All, Check and Sectors answer the error want, and nothing, of a root.
func (h *Held) WantNoList(what string, root int, want api.Errno) {
	h.T.Helper()
	if l, e := h.All(h.Desk, root); l != nil || e != want {
		h.T.Errorf("%s: All at %d: %d entries, %d, not error %d", what, root, len(l), e, want)
	}
	if l, e := h.Sectors(h.Desk, root); l != nil || e != want {
		h.T.Errorf("%s: Sectors at %d: %v, %d, not error %d", what, root, l, e, want)
	}
	witness.Want(h.T, what+": Check", want, h.Check(h.Desk, h.Gen, root))
}
