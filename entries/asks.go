package entries

import (
	"slices"

	"masonry/api"
	"masonry/chain"
	"masonry/desk"
	"masonry/sample"
	"masonry/witness"
)

// orders tells l in some orders.
func orders(l []api.Entry) [][]api.Entry {
	rising := Sorted(l...)
	falling := slices.Clone(rising)
	slices.Reverse(falling)
	return [][]api.Entry{l, rising, falling}
}

// AskSteps adds entries one by one, and takes them out one by one, in several orders.
func (c Kind) AskSteps(t witness.T) {
	t.Helper()
	for m, l := range [][]api.Entry{Mixed(45), Crowd(45), Alike(1, 3, 30), Alike(2, 65535, 20), OneHash(2, 65535, 30), OneHash(1, 2, 20), OnePlace(1, 1999, 30)} {
		for n, order := range orders(l) {
			h := c.Empty(t, api.Least, 1+(m+n)%3)
			for _, x := range order {
				h.Adds("one by one", x)
			}
			for _, x := range orders(l)[(m+n)%3] {
				h.Drops("one by one", x)
			}
			if h.Root != 0 || len(h.List) != 0 {
				t.Errorf("root %d at last", h.Root)
			}
		}
	}
}

// AskAtOnce adds many entries in one call, to any number of them, and takes many out in one call.
func (c Kind) AskAtOnce(t witness.T) {
	t.Helper()
	for gen, all := range [][]api.Entry{1: Mixed(80), 2: Crowd(80)} {
		for first := 0; first < 40 && gen > 0; first += 1 + first/6 {
			for more := 0; more <= 40; more += 1 + more/4 {
				h := c.Empty(t, 200, gen)
				h.Put("at once", all[:first]...)
				h.Adds("at once", all[first:first+more]...)
				h.Drops("at once", all[first/2:first/2+more]...)
				h.Adds("at once, again", all[first/2:first/2+more]...)
				h.Drops("all at once", h.List...)
			}
		}
	}
}

// AskNone adds and takes out no entries: nothing changes.
func (c Kind) AskNone(t witness.T) {
	t.Helper()
	for gen := 1; gen <= 3; gen++ {
		h := c.Empty(t, api.Least, gen)
		for n := range 12 {
			witness.Kept(t, "no entries", h.Disk, h.Desk, func() {
				for _, l := range [][]api.Entry{nil, {}, make([]api.Entry, 0, 5)} {
					if root, e := h.Add(h.Desk, gen, h.Root, l...); root != h.Root || e != api.OK {
						t.Errorf("Add of no entries: %d, %d, not %d", root, e, h.Root)
					}
					if root, e := h.Drop(h.Desk, gen, h.Root, l...); root != h.Root || e != api.OK {
						t.Errorf("Drop of no entries: %d, %d, not %d", root, e, h.Root)
					}
				}
			})
			h.Adds("no entries", Mixed(12)[n])
			if n%3 > 0 {
				witness.Want(t, "Sync", api.OK, h.Desk.Sync())
			}
		}
	}
}

// AskMost has as many entries as there may be, and one more.
func (c Kind) AskMost(t witness.T) {
	t.Helper()
	l := Mixed(most + 5)
	for gen := 1; gen <= 3; gen++ {
		h := c.Empty(t, api.Sectors, gen)
		h.NoAdd("one too many at once", api.ErrLong, l[:most+1]...)
		h.NoAdd("many too many at once", api.ErrLong, slices.Concat(l[:most+1], Wrong())...)
		h.Adds("all but one", l[:most-1]...)
		h.NoAdd("one too many", api.ErrLong, l[most:]...)
		h.NoAdd("one too many", api.ErrLong, l[most], l[most+1])
		h.NoAdd("ErrDup ahead of one too many", api.ErrDup, l[most], l[most], l[most+1])
		h.NoAdd("ErrArg ahead of one too many", api.ErrArg, l[most], Wrong()[0], l[most+1])
		h.Adds("the last one", l[most-1])
		h.NoAdd("one too many", api.ErrLong, l[most])
		h.NoAdd("ErrDup ahead of ErrLong", api.ErrDup, l[7])
		h.NoAdd("ErrArg ahead of ErrLong", api.ErrArg, Wrong()[1])
		h.NoDrop("not there", api.ErrNone, l[most])
		h.Drops("one", l[7])
		h.Adds("another one", l[most])
		h.NoAdd("one too many", api.ErrLong, l[7])
		h.Drops("many", l[100:1200]...)
		h.Adds("many", l[300:1200]...)
		h.NoAdd("there already", api.ErrDup, l[1199])
		h.Drops("all", h.List...)
		h.Adds("all at once", l[:most]...)
		h.Drops("all", h.List...)
	}
}

// AskManySteps goes up to as many entries as there may be, and down again, a few at a time.
func (c Kind) AskManySteps(t witness.T) {
	t.Helper()
	h := c.Empty(t, api.Sectors, api.G2)
	l := Mixed(most)
	for n := 0; n < most; n += 3 {
		h.Put("up", l[n:n+3]...)
		if n%150 == 0 {
			h.Glance("up")
		}
	}
	h.Look("all")
	for n := 0; n < most; n += 4 {
		h.Take("down", l[n:n+4]...)
		if n%200 == 0 {
			h.Glance("down")
		}
	}
	h.Look("none")
}

// laden tells something that has entries, some of them committed, others on the desk.
func (c Kind) laden(t witness.T, sectors, gen int) *Held {
	t.Helper()
	h := c.With(t, sectors, gen, Mixed(21)[:14]...)
	witness.Want(t, "Sync", api.OK, h.Desk.Sync())
	h.Adds("on the desk", Mixed(21)[14:]...)
	return h
}

// AskWrong hands in entries that may not be, alone, first, last and among others.
func (c Kind) AskWrong(t witness.T) {
	t.Helper()
	good := Crowd(12)
	for gen := 1; gen <= 3; gen++ {
		for _, h := range []*Held{c.Empty(t, api.Least, gen), c.laden(t, api.Least, gen)} {
			for _, x := range Wrong() {
				h.NoAdd("alone", api.ErrArg, x)
				h.NoAdd("first", api.ErrArg, x, good[0])
				h.NoAdd("last", api.ErrArg, append(slices.Clone(good), x)...)
				h.NoAdd("among others", api.ErrArg, good[0], x, good[1])
				h.NoDrop("alone", api.ErrNone, x)
				if len(h.List) > 0 {
					h.NoDrop("last", api.ErrNone, append(slices.Clone(h.List), x)...)
					h.NoDrop("among others", api.ErrNone, h.List[0], x, h.List[1])
				}
			}
			h.Look("behind them")
			h.Adds("behind them", good...)
			for _, form := range NoForms() {
				witness.Kept(t, "no form", h.Disk, h.Desk, func() {
					for _, l := range [][]api.Entry{nil, {}, {good[0]}, {Mixed(2)[1]}, {Wrong()[0]}, h.List} {
						h.WantNoRoot("no form: Add", h.Add, form, h.Root, api.ErrArg, l...)
						h.WantNoRoot("no form: Drop", h.Drop, form, h.Root, api.ErrArg, l...)
						h.WantNoRoot("no form: Add", h.Add, form, 0, api.ErrArg, l...)
						h.WantNoRoot("no form: Drop", h.Drop, form, 0, api.ErrArg, l...)
					}
				})
			}
		}
	}
}

// AskForms asks that Check tells a form from others, of which an empty one has none.
func (c Kind) AskForms(t witness.T) {
	t.Helper()
	for gen := 1; gen <= 3; gen++ {
		h := c.Empty(t, 200, gen)
		for n := range 40 {
			for _, form := range append(NoForms(), 1, 2, 3) {
				want := api.ErrBroken
				if form == gen || n == 0 {
					want = api.OK
				}
				witness.Want(t, "Check", want, c.Check(h.Desk, form, h.Root))
			}
			h.Put("Check", Mixed(40)[n])
		}
	}
}

// AskPlaces has entries of the first and the last place that there may be.
func (c Kind) AskPlaces(t witness.T) {
	t.Helper()
	for gen := 1; gen <= 3; gen++ {
		h := c.Empty(t, api.Least, gen)
		for n, at := range []int{1, 1999, 2, 1998, 255, 256, 1000} {
			h.Adds("a place", Of(1+n%2, 5, 1, at), Of(1+n%2, 900*n, 2, at))
		}
		h.Adds("a place above those of its disk", Of(1, 5, 1, 29), Of(1, 5, 1, 30), Of(2, 5, 1, 140))
	}
}

// AskOrder hands in entries of which several are wrong: the first one counts, and nothing has changed.
func (c Kind) AskOrder(t witness.T) {
	t.Helper()
	for gen := 1; gen <= 3; gen++ {
		h := c.laden(t, api.Least, gen)
		there, other, one, two, wrong := h.List[0], h.List[15], Of(1, 9, 9, 9), Of(2, 9, 9, 9), Wrong()
		for n, l := range [][]api.Entry{
			{there}, {there, one}, {one, there}, {one, one}, {one, two, one}, {one, two, two}, {there, there}, {other, there},
			{there, wrong[0]}, {one, one, wrong[1]}, {one, other, wrong[2], one}, {two, one, Mixed(3)[0], Mixed(3)[1], two, wrong[0]},
		} {
			h.NoAdd("there already", api.ErrDup, l...)
			h.NoAdd("there already", api.ErrDup, slices.Concat(Crowd(n), l)...)
		}
		for n, l := range [][]api.Entry{
			{wrong[0], there}, {wrong[1], one, one}, {one, wrong[2], there}, {one, two, wrong[3], two}, {wrong[0], wrong[1]},
		} {
			h.NoAdd("may not be", api.ErrArg, l...)
			h.NoAdd("may not be", api.ErrArg, slices.Concat(Crowd(n), l)...)
		}
		for _, l := range [][]api.Entry{
			{one}, {there, one}, {one, there}, {there, there}, {there, other, there}, {there, other, other}, {wrong[0]}, {there, wrong[0], other},
			append(slices.Clone(h.List), one), append(slices.Clone(h.List), there), append(slices.Clone(h.List), h.List[len(h.List)-1]),
		} {
			h.NoDrop("not there", api.ErrNone, l...)
		}
		h.Look("behind them")
		empty := c.Empty(t, api.Least, gen)
		empty.NoDrop("of none", api.ErrNone, one)
		empty.NoDrop("of none", api.ErrNone, one, wrong[0])
		empty.NoAdd("twice", api.ErrDup, one, one)
		empty.NoAdd("twice", api.ErrDup, append(Mixed(20), Mixed(20)[19])...)
		empty.Adds("once", one)
		empty.NoDrop("twice", api.ErrNone, one, one)
	}
}

// AskNear drops, and adds, entries that are like others but for one thing.
func (c Kind) AskNear(t witness.T) {
	t.Helper()
	for gen := 1; gen <= 3; gen++ {
		h := c.With(t, api.Least, gen, Of(1, 300, 4, 17), Of(2, 300, 4, 17), Of(1, 300, 5, 17), Of(1, 301, 4, 18))
		sum := Print(1, 300, 4).Sum
		for _, x := range []api.Entry{
			Of(1, 300, 4, 16), Of(1, 300, 4, 18), Of(2, 300, 4, 18), Of(2, 300, 5, 17), Of(1, 301, 4, 17), Of(1, 300+256, 4, 17),
			{Print: api.Print{Kind: 1, Sum: sample.Changed(sum, 19, 1)}, At: 17}, {Print: api.Print{Kind: 1, Sum: sample.Changed(sum, 0, 128)}, At: 17},
			{Print: api.Print{Kind: 2, Sum: sum + "pppppppppppp"[:11] + "q"}, At: 17},
		} {
			h.NoDrop("like another one", api.ErrNone, x)
			h.Adds("like another one", x)
			h.NoAdd("there now", api.ErrDup, x)
			h.Drops("like another one", x)
		}
	}
}

// AskFind looks for prints that are there never, once and often, and for those that may not be.
func (c Kind) AskFind(t witness.T) {
	t.Helper()
	for gen := 1; gen <= 3; gen++ {
		for _, l := range [][]api.Entry{nil, Mixed(1), Mixed(30), slices.Concat(Mixed(30), Alike(1, 7, 25), Alike(2, 7, 2), OneHash(1, 7, 20))} {
			h := c.With(t, 200, gen, l...)
			h.Look("Find")
			witness.Kept(t, "Find", h.Disk, h.Desk, func() {
				for _, p := range append(NoPrints(), api.Print{}) {
					h.WantFind("of no print", p)
				}
				for _, x := range l {
					for n := range len(x.Print.Sum) {
						h.WantFind("of a part of a print", api.Print{Kind: x.Print.Kind, Sum: x.Print.Sum[:n]})
					}
					h.WantFind("of another kind", api.Print{Kind: 0, Sum: x.Print.Sum})
					h.WantFind("of another kind", api.Print{Kind: x.Print.Kind + 256, Sum: x.Print.Sum})
					h.WantFind("of more bytes", api.Print{Kind: x.Print.Kind, Sum: x.Print.Sum + "\x00"})
				}
			})
		}
	}
}

// AskRoots has roots that may not be.
func (c Kind) AskRoots(t witness.T) {
	t.Helper()
	for gen := 1; gen <= 3; gen++ {
		h := c.laden(t, api.Least, gen)
		for _, root := range sample.Outside(api.Least - 111) {
			h.Nothing("no home sector", root, api.ErrRange)
			h.first("no home sector", root)
		}
		junk := []int{1, 28, 27}
		for _, tag := range []int{0, 1, 2, 3, 4, 5, 13, 14, 99, 200} {
			for _, data := range []string{"", "junk", Low(0), Lay(Mixed(1)...), Low(1, 0) + Lay(Mixed(1)...)} {
				at, e := chain.Put(h.Desk, gen, tag, data)
				witness.Want(t, "chain.Put", api.OK, e)
				h.Nothing("another chain", at, api.ErrBroken)
				witness.Want(t, "chain.Drop", api.OK, chain.Drop(h.Desk, at))
			}
		}
		for _, at := range junk {
			h.Nothing("no chain", at, api.ErrBroken)
			h.first("no chain", at)
		}
		for _, tag := range []int{0, 1, 2, 3, 4, 5, 13, 14, 200} {
			c, _ := chain.Get(h.Desk, h.Root)
			at, e := chain.Put(h.Desk, gen, tag, c.Data)
			witness.Want(t, "chain.Put", api.OK, e)
			if tag != h.Tag {
				h.Nothing("another tag", at, api.ErrBroken)
			}
			witness.Want(t, "chain.Drop", api.OK, chain.Drop(h.Desk, at))
		}
		h.Look("behind them")
	}
}

// first asks that an entry that may not be counts ahead of a root that may not be, and a form that is none, too.
func (h *Held) first(what string, root int) {
	h.T.Helper()
	h.WantNoRoot(what+": Add", h.Add, h.Gen, root, api.ErrArg, Wrong()[0])
	h.WantNoRoot(what+": Add", h.Add, h.Gen, root, api.ErrArg, Wrong()[1], Mixed(1)[0])
	for _, form := range []int{0, 4} {
		h.WantNoRoot(what+": Add", h.Add, form, root, api.ErrArg, Mixed(1)[0])
		h.WantNoRoot(what+": Drop", h.Drop, form, root, api.ErrArg, Mixed(1)[0])
		h.WantNoRoot(what+": Drop", h.Drop, form, root, api.ErrArg)
	}
}

// AskStale has a root that was given back.
func (c Kind) AskStale(t witness.T) {
	t.Helper()
	for gen := 1; gen <= 3; gen++ {
		h := c.With(t, api.Least, gen, Mixed(3)...)
		root := h.Root
		h.Drops("all", h.List...)
		h.Nothing("given back", root, api.ErrBroken)
	}
}

// AskDesks has Desks that are none, or bad.
func (c Kind) AskDesks(t witness.T) {
	t.Helper()
	for _, k := range []*desk.Desk{nil, {}} {
		h := &Held{Kind: c, T: t, Desk: k}
		for _, root := range append(sample.Outside(29), 0, 1, 2, 3) {
			for h.Gen = range 5 {
				h.WantNothing("no Desk", root, api.ErrArg)
			}
			h.Gen = 1
			h.first("no Desk", root)
		}
	}
	for gen := 1; gen <= 3; gen++ {
		h := c.laden(t, api.Least, gen)
		h.Disk.Arm(3)
		witness.Want(t, "Sync", api.ErrOff, h.Desk.Sync())
		for range 2 {
			for _, root := range append(sample.Outside(29), 0, 1, h.Root, 28) {
				h.Nothing("a bad Desk", root, api.ErrOff)
				h.first("a bad Desk", root)
			}
			h.Disk.Restore()
		}
	}
}

// AskNoPower has a disk without power: what is on the desk can be read, the rest is ErrOff, which does not stay.
func (c Kind) AskNoPower(t witness.T) {
	t.Helper()
	for gen := 1; gen <= 3; gen++ {
		h := c.laden(t, api.Least, gen)
		witness.Want(t, "Sync", api.OK, h.Desk.Sync())
		h.Disk.Crash()
		h.Nothing("not on the desk", h.Root, api.ErrOff)
		h.first("not on the desk", h.Root)
		h.Nothing("no home sector", 29, api.ErrRange)
		h.Disk.Restore()
		h.Look("with power")
		other := c.With(t, api.Least, gen, Mixed(10)...)
		other.Disk.Crash()
		other.Look("on the desk")
		other.Drops("on the desk", other.List...)
		other.Adds("on the desk", Mixed(7)...)
		other.Disk.Restore()
		witness.Want(t, "Sync", api.OK, other.Desk.Sync())
		other.Look("synced")
	}
}
