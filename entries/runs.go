package entries

import (
	"slices"
	"unsafe"

	"masonry/api"
	"masonry/desks"
	"masonry/disk"
	"masonry/sample"
	"masonry/witness"
)

// AskRoom has fewer and fewer sectors left, down to none: what does not fit changes nothing.
func (c Kind) AskRoom(t witness.T) {
	t.Helper()
	for gen, had := range []int{0, 1, 4, 9, 30} {
		for _, more := range []int{1, 2, 5, 40} {
			fitted := true
			for free := 26; free >= 0; free-- {
				h := c.With(t, 160, 1+gen%3, Mixed(90)[:had]...)
				h.fill(free)
				fits := h.addIfFits("few left", Mixed(90)[40:40+more]...)
				if fits && !fitted {
					t.Errorf("%d more to %d fit where there are %d left, and not where there is one more", more, had, free)
				}
				fitted = fits
			}
			if fitted && had == 0 {
				t.Errorf("%d entries where no sector is left", more)
			}
		}
	}
}

// fill lets all sectors but so many be in use.
func (h *Held) fill(free int) {
	h.T.Helper()
	for h.Desk.Room().Free() > free {
		at, e := h.Desk.New(sample.Full('f'))
		witness.Want(h.T, "desk.New", api.OK, e)
		h.Others = append(h.Others, at)
	}
}

// addIfFits adds entries, and tells whether there was room for them; if not, nothing has changed.
func (h *Held) addIfFits(what string, l ...api.Entry) bool {
	h.T.Helper()
	m := h.Desk.Mark()
	root, e := h.Add(h.Desk, h.Gen, h.Root, l...)
	if e == api.OK {
		h.Root, h.List = root, Sorted(slices.Concat(h.List, l)...)
		h.Look(what)
		return true
	}
	h.Desk.Back(m)
	h.NoAdd(what, api.ErrFull, l...)
	h.Look(what)
	return false
}

// AskTillFull adds entries until there is no room, and takes them out again.
func (c Kind) AskTillFull(t witness.T) {
	t.Helper()
	for gen := 1; gen <= 3; gen++ {
		h := c.Empty(t, api.Least, gen)
		l := Mixed(200)
		n := 0
		for h.addIfFits("till it is full", l[n]) {
			n++
		}
		if n < 20 || n > 170 {
			t.Errorf("%d entries", n)
		}
		h.NoAdd("full", api.ErrDup, l[0])
		h.NoAdd("full", api.ErrArg, Wrong()[0])
		h.NoDrop("full", api.ErrNone, l[n])
		h.Drops("full", h.List...)
		h.Adds("empty again", l[:n/2]...)
	}
}

// AskHanded hands in lists that have room behind them: they are as they were.
func (c Kind) AskHanded(t witness.T) {
	t.Helper()
	for gen := 1; gen <= 3; gen++ {
		for _, n := range []int{1, 2, 9, 40} {
			h := c.Empty(t, 200, gen)
			given := append(Mixed(n), Crowd(3)...)
			was := slices.Clone(given)
			h.Adds("handed in", given[:n]...)
			h.NoAdd("handed in", api.ErrDup, given[:n]...)
			h.NoDrop("handed in", api.ErrNone, given[:n+1]...)
			h.Drops("handed in", given[:n]...)
			h.NoDrop("handed in", api.ErrNone, given[:n]...)
			h.Adds("handed in", given[:n]...)
			if !slices.Equal(given, was) {
				t.Errorf("what was handed in, or its room, has changed")
			}
			clear(given)
			h.Look("handed in, and changed")
		}
	}
}

// AskAnswers asks that what was answered stays, and can be changed without changing anything else.
func (c Kind) AskAnswers(t witness.T) {
	t.Helper()
	for gen := 1; gen <= 3; gen++ {
		l := slices.Concat(Mixed(20), Alike(1, 7, 20))
		h := c.With(t, 200, gen, l...)
		had := slices.Clone(h.List)
		all, _ := h.All(h.Desk, h.Root)
		again, _ := h.All(h.Desk, h.Root)
		found, _ := h.Find(h.Desk, h.Root, Print(1, 7, 7))
		places := slices.Clone(found)
		sectors, _ := h.Sectors(h.Desk, h.Root)
		were := slices.Clone(sectors)
		clear(again[:cap(again)])
		h.Look("behind answers that were changed")
		h.Drops("behind answers", l[5:30]...)
		h.Adds("behind answers", Crowd(30)...)
		h.Drops("behind answers", h.List...)
		h.Adds("behind answers", Crowd(9)...)
		if !slices.Equal(all, had) || !slices.Equal(found, places) || !slices.Equal(sectors, were) || len(places) != 20 {
			t.Errorf("an answer has changed")
		}
		clear(found)
		clear(sectors)
		h.Look("behind answers")
	}
}

// text tells a text that shares its memory with bytes.
func text(b []byte) string { return unsafe.String(unsafe.SliceData(b), len(b)) }

// AskHandedTexts hands in prints whose memory is changed behind the call.
func (c Kind) AskHandedTexts(t witness.T) {
	t.Helper()
	for gen := 1; gen <= 3; gen++ {
		h := c.Empty(t, api.Least, gen)
		for n, x := range Mixed(12) {
			b := []byte(x.Print.Sum)
			given := []api.Entry{{Print: api.Print{Kind: x.Print.Kind, Sum: text(b)}, At: x.At}}
			root, e := c.Add(h.Desk, gen, h.Root, given...)
			witness.Want(t, "Add", api.OK, e)
			if n%3 == 2 {
				root, e = c.Drop(h.Desk, gen, root, given...)
				witness.Want(t, "Drop", api.OK, e)
				root, e = c.Add(h.Desk, gen, root, given...)
				witness.Want(t, "Add", api.OK, e)
			}
			clear(b)
			h.Root, h.List = root, Sorted(append(h.List, x)...)
			h.Look("handed in, and changed")
		}
	}
}

// AskAnswersOfTheirOwn asks that the prints of two answers share no memory.
func (c Kind) AskAnswersOfTheirOwn(t witness.T) {
	t.Helper()
	h := c.With(t, api.Least, 2, Mixed(12)...)
	one, _ := c.All(h.Desk, h.Root)
	two, _ := c.All(h.Desk, h.Root)
	at := map[*byte]int{}
	for _, x := range slices.Concat(one, two, h.List) {
		at[unsafe.StringData(x.Print.Sum)]++
	}
	if len(at) != 36 {
		t.Errorf("%d texts, not 36", len(at))
	}
}

// AskBack goes back to Marks of before and between changes.
func (c Kind) AskBack(t witness.T) {
	t.Helper()
	for gen := 1; gen <= 3; gen++ {
		h := c.laden(t, api.Least, gen)
		m, was := h.Desk.Mark(), *h
		h.Drops("changed", h.List[:12]...)
		m2, was2 := h.Desk.Mark(), *h
		h.Adds("changed", Crowd(15)...)
		h.Drops("changed", h.List...)
		h.Desk.Back(m2)
		*h = was2
		h.Look("Back")
		h.Adds("changed", Crowd(3)...)
		h.Desk.Back(m)
		*h = was
		h.Look("Back")
	}
}

// AskTwo has two beside each other on one Desk: neither touches the other.
func (c Kind) AskTwo(t witness.T) {
	t.Helper()
	one := c.With(t, 200, 1, Mixed(20)...)
	two := *one
	two.Gen, two.Root, two.List = 2, 0, nil
	turn := func(a, b *Held, do func()) {
		t.Helper()
		l, _ := b.Sectors(b.Desk, b.Root)
		a.Others = slices.Concat([]int{0, 1}, l)
		do()
		l, _ = a.Sectors(a.Desk, a.Root)
		b.Others = slices.Concat([]int{0, 1}, l)
		b.Look("the other one")
	}
	for n, x := range Mixed(20) {
		turn(&two, one, func() { two.Adds("two", x) })
		if n%3 == 1 {
			turn(one, &two, func() { one.Drops("two", x) })
			turn(one, &two, func() { one.Adds("two", Of(1, 5, n, 9)) })
		}
	}
	turn(one, &two, func() { one.Drops("two", one.List...) })
	turn(&two, one, func() { two.Drops("two", two.List...) })
}

// begin lays the root at home sector 0.
func (h *Held) begin() {
	h.T.Helper()
	witness.Want(h.T, "Set", api.OK, h.Desk.Set(0, Low(h.Root)+sample.Full(0)[2:]))
}

// begun tells one to which entries were added, committed together with its root.
func (c Kind) begun(t witness.T, sectors, gen int, l ...api.Entry) *Held {
	t.Helper()
	h := c.With(t, sectors, gen, l...)
	h.begin()
	witness.Want(t, "Sync", api.OK, h.Desk.Sync())
	return h
}

// began tells one as it stands on a disk: its root is what home sector 0 says.
func (h *Held) began(d *disk.Disk, l []api.Entry) *Held {
	h.T.Helper()
	k := desks.Opened(h.T, d)
	b, _ := k.Get(0)
	c := *h
	c.Disk, c.Desk, c.List, c.Root = d, k, l, Hash(api.Print{Sum: b})
	return &c
}

// AskPower lets the power go at each act of a Sync, and of the Open behind it: opened again the disk has all that was done, or nothing.
func (c Kind) AskPower(t witness.T) {
	t.Helper()
	for gen := 1; gen <= 3; gen++ {
		h := c.begun(t, api.Least, gen, Mixed(14)...)
		later := h.began(h.Disk.Twin(), h.List)
		later.Drops("later", Mixed(14)[3:9]...)
		later.Adds("later", Crowd(12)...)
		h.powerGoes(later.List, func(d *disk.Disk) api.Errno {
			x := h.began(d, h.List)
			x.Root, _ = x.Drop(x.Desk, gen, x.Root, Mixed(14)[3:9]...)
			x.Root, _ = x.Add(x.Desk, gen, x.Root, Crowd(12)...)
			x.begin()
			return x.Desk.Sync()
		})
	}
}

// powerGoes asks that a disk has what it has, or all of later, wherever the power goes while something is done.
func (h *Held) powerGoes(later []api.Entry, do func(d *disk.Disk) api.Errno) {
	h.T.Helper()
	whole := h.Disk.Twin()
	writes := whole.Writes()
	do(whole)
	acts := whole.Writes() - writes + 4 // a Flush behind the copies, the head, the sectors and the head
	for n := range acts + 2 {
		for m, keep := range sample.Somes(20) {
			d, told := witness.Broken(h.Disk, n, keep, do)
			if (told == api.OK) != (n >= acts) {
				h.T.Errorf("the power goes at %d of %d: told %d", n, acts, told)
			}
			d, _ = witness.Broken(d, (5*n+m)%(acts/2), sample.Somes(20)[(n+m)%6], desks.Open)
			x := h.began(d, h.List)
			if l, _ := x.All(x.Desk, x.Root); slices.Equal(l, later) {
				x.List = later
			} else {
				witness.Want(h.T, "as ahead of it", api.ErrOff, told)
			}
			x.Look("behind a loss of power")
			witness.WantDirty(h.T, "behind a loss of power", x.Desk)
		}
	}
}

// AskNotSynced lets the power go ahead of a Sync: nothing that was done is there.
func (c Kind) AskNotSynced(t witness.T) {
	t.Helper()
	for gen := 1; gen <= 3; gen++ {
		h := c.begun(t, api.Least, gen, Mixed(14)...)
		for n := range 14 {
			x := h.began(h.Disk, h.List)
			x.Adds("not synced", Crowd(n)...)
			x.Drops("not synced", Mixed(14)[:n]...)
			h.Disk.Crash(1, 1, 1, 1)
			h.Disk.Restore()
			h.began(h.Disk, h.List).Look("not synced")
		}
	}
}

// run is one of which the root is kept with it, and a list of what was synced.
type run struct {
	*Held
	all    []api.Entry // what may be added
	synced []api.Entry
	sample.Draw
}

// some tells some of l, in some order.
func (r *run) some(l []api.Entry) []api.Entry {
	var got []api.Entry
	for range min(len(l), r.One(0, 1, 1, 2, 3, 5, 5, 8, 12, 25)) {
		got = append(got, l[r.Below(len(l))])
	}
	return got
}

// twice tells whether one of l comes twice.
func twice(l []api.Entry) bool {
	s := Sorted(l...)
	for n := 1; n < len(s); n++ {
		if s[n-1] == s[n] {
			return true
		}
	}
	return false
}

// add adds some, now and then what is there already.
func (r *run) add() {
	l := r.some(r.all)
	if slices.ContainsFunc(l, r.has) || twice(l) {
		if len(l) > 2 && r.Below(3) > 0 {
			l = slices.DeleteFunc(Sorted(l...), r.has)
			r.addAny(slices.Compact(l))
			return
		}
		r.NoAdd("run", api.ErrDup, l...)
		return
	}
	r.addAny(l)
}

// has tells whether an entry is there.
func (r *run) has(x api.Entry) bool { return slices.Contains(r.List, x) }

// addAny adds l, if there is room.
func (r *run) addAny(l []api.Entry) {
	if r.Below(8) == 0 {
		r.NoAdd("run", api.ErrArg, append(slices.Clone(l), Wrong()[r.Below(20)])...)
	}
	root, e := r.Add(r.Desk, r.Gen, r.Root, l...)
	if e == api.ErrFull {
		r.NoAdd("run", api.ErrFull, l...)
		return
	}
	witness.Want(r.T, "run: Add", api.OK, e)
	r.Root, r.List = root, Sorted(slices.Concat(r.List, l)...)
	r.begin()
}

// drop takes some out, now and then what is not there.
func (r *run) drop() {
	l := Sorted(r.some(r.List)...)
	if twice(l) {
		r.NoDrop("run", api.ErrNone, l...)
	}
	l = slices.Compact(l)
	if r.Below(6) == 0 {
		for _, x := range r.some(r.all) {
			if !r.has(x) {
				r.NoDrop("run", api.ErrNone, append(slices.Clone(l), x)...)
			}
		}
	}
	if r.Below(9) == 0 {
		l = r.List
	}
	root, e := r.Drop(r.Desk, r.Gen, r.Root, l...)
	if e == api.ErrFull { // a way that never writes over what stands needs room for this, too
		r.NoDrop("run", api.ErrFull, l...)
		return
	}
	witness.Want(r.T, "run: Drop", api.OK, e)
	r.Root = root
	r.List = slices.DeleteFunc(slices.Clone(r.List), func(x api.Entry) bool { return slices.Contains(l, x) })
	r.begin()
}

// back does something, and goes back to a Mark of before it.
func (r *run) back() {
	m, was := r.Desk.Mark(), *r.Held
	r.add()
	r.drop()
	r.add()
	r.Desk.Back(m)
	*r.Held = was
}

// sync lets the power go in a Sync now and then; the disk is opened again.
func (r *run) sync() {
	k, e := desks.Sync(r.T, r.Disk, r.Desk, &r.Draw)
	now := r.List
	r.Held = r.began(r.Disk, r.synced)
	r.Desk = k
	if l, _ := r.All(k, r.Root); e == api.OK || slices.Equal(l, now) {
		r.List = now
	}
	r.synced = r.List
}

// step does something.
func (r *run) step() {
	switch n := r.Below(20); {
	case n < 9:
		r.add()
	case n < 15:
		r.drop()
	case n < 17:
		r.back()
	case n < 19:
		r.sync()
	}
}

// AskRun holds one against a list through many steps.
func (c Kind) AskRun(t witness.T) {
	t.Helper()
	for gen := 1; gen <= 3; gen++ {
		for n, all := range [][]api.Entry{Mixed(120), Crowd(90), slices.Concat(Alike(1, 9, 60), Mixed(60))} {
			h := c.begun(t, []int{api.Least, 180}[n%2], gen)
			r := &run{h, all, nil, sample.Draw(10*gen + n)}
			for i := range 400 {
				r.step()
				r.Glance("run")
				if i%10 == 0 {
					r.Look("run")
				}
			}
		}
	}
}
