package tree_test

import (
	"slices"
	"strings"
	"testing"

	"masonry/api"
	"masonry/chain"
	"masonry/desk"
	"masonry/entries"
	"masonry/sample"
	"masonry/tree"
	"masonry/witness"
)

const (
	most   = 1500 // entries that there may be, written out
	twig   = 4    // the tag of a part
	leaf   = 1    // what a part says that is a leaf
	branch = 0    // and one that is none
)

var (
	want, kept = witness.Want, witness.Kept
	lay, low   = entries.Lay, entries.Low
	of, mixed  = entries.Of, entries.Mixed
)

// kind is how this package keeps entries; Add and Drop are looked at, too: nothing is written where the tree stood.
func kind(t *testing.T) entries.Kind {
	return entries.Kind{
		Add: unwritten(t, "Add", tree.Add), Drop: unwritten(t, "Drop", tree.Drop), Find: tree.Find, All: tree.All,
		Check: tree.Check, Sectors: tree.Sectors, Tag: twig, Shape: shape,
	}
}

// change is Add, or Drop.
type change = func(k *desk.Desk, gen, root int, l ...api.Entry) (int, api.Errno)

// unwritten tells a change that asks that of the sectors that a tree had none is written: each that it still has is as it was, and not on the desk, if it was not; the others are not in use.
func unwritten(t *testing.T, what string, do change) change {
	return func(k *desk.Desk, gen, root int, l ...api.Entry) (int, api.Errno) {
		t.Helper()
		if k == nil || k.Bad() != api.OK {
			return do(k, gen, root, l...)
		}
		had, before := judge(k, root).places, sectorsNow(k)
		now, e := do(k, gen, root, l...)
		if e != api.OK {
			return now, e
		}
		has, behind := judge(k, now).places, sectorsNow(k)
		for _, at := range had {
			was, is, stays := before[at], behind[at], slices.Contains(has, at)
			if stays && is != was || is.dirty && !was.dirty || is.used != (stays && was.used) {
				t.Errorf("%s of %d entries: sector %d of the tree: in use %t, on the desk %t, ahead of it %t; of the tree %t", what, len(l), at, is.used, is.dirty, was.dirty, stays)
			}
		}
		return now, e
	}
}

// sector is how a home sector is.
type sector struct {
	data        string
	used, dirty bool
}

// sectorsNow tells how all home sectors are.
func sectorsNow(k *desk.Desk) []sector {
	l := make([]sector, k.Size())
	for at := range l {
		l[at].data, _ = k.Get(at)
	}
	for _, at := range k.Room().All() {
		l[at].used = true
	}
	for _, at := range k.Dirty() {
		l[at].dirty = true
	}
	return l
}

// judged is what a tree is, by its bytes alone.
type judged struct {
	entries []api.Entry // of its leaves, in their order
	parts   []piece     // each ahead of those below it
	places  []int
	depth   int
	sound   bool // whether it has the shape that a tree has, and all its chains one form
}

// piece is a part of a tree as its bytes say.
type piece struct {
	at, gen, kind int
	entries       []api.Entry
	below         []int
}

// judge reads a tree from its bytes: those of the parts of a tree of more than 12 are not looked at.
func judge(k *desk.Desk, root int) judged {
	if root == 0 {
		return judged{sound: true}
	}
	j := judgePart(k, root, 1)
	if j.sound {
		first := j.parts[0]
		j.sound = entries.Sound(j.entries) && (first.kind == leaf || len(first.entries) >= 2)
	}
	for _, p := range j.parts {
		j.sound = j.sound && p.gen == j.parts[0].gen
	}
	return j
}

// judgePart reads a part and what is below it.
func judgePart(k *desk.Desk, at, depth int) judged {
	p, ok := pieceAt(k, at)
	if !ok || depth > 12 {
		return judged{}
	}
	j := judged{parts: []piece{p}, places: []int{at}, depth: 1, sound: true}
	if p.kind == leaf {
		j.entries = p.entries
		return j
	}
	for n, kid := range p.below {
		b := judgePart(k, kid, depth+1)
		if !b.sound || len(b.parts[0].entries) < 3 || b.entries[0] != p.entries[n] || n > 0 && b.depth+1 != j.depth || slices.Contains(j.places, kid) {
			j.sound = false
			return j
		}
		j.depth = b.depth + 1
		j.entries, j.parts, j.places = slices.Concat(j.entries, b.entries), slices.Concat(j.parts, b.parts), slices.Concat(j.places, b.places)
	}
	return j
}

// pieceAt reads the part at a place, if there is one of 1 to 6 entries and no byte else.
func pieceAt(k *desk.Desk, at int) (piece, bool) {
	c, e := chain.Get(k, at)
	if e != api.OK || c.Tag != twig || len(c.Data) < 2 {
		return piece{}, false
	}
	p := piece{at: at, gen: c.Gen, kind: int(c.Data[0])}
	n, each := int(c.Data[1]), map[int]int{leaf: 35, branch: 37}[p.kind]
	if each == 0 || n < 1 || n > 6 || len(c.Data) != 2+n*each {
		return piece{}, false
	}
	for data := c.Data[2:]; data != ""; data = data[each:] {
		p.entries = append(p.entries, entries.ReadAll(data[:35])...)
		if p.kind == branch {
			p.below = append(p.below, int(data[35])+256*int(data[36]))
		}
	}
	return p, true
}

// shape asks that a tree has the shape that it should, and these entries.
func shape(t witness.T, what string, k *desk.Desk, gen, root int, l []api.Entry) []int {
	t.Helper()
	j := judge(k, root)
	if !j.sound || !slices.Equal(j.entries, l) || j.depth > 0 && j.parts[0].gen != gen {
		t.Fatalf("%s: the tree at %d: sound %t, %d entries, not %d of the form %d", what, root, j.sound, len(j.entries), len(l), gen)
	}
	for _, p := range j.parts {
		if c, _ := chain.Get(k, p.at); c.Refs != 1 || chain.Need(len(c.Data)) != 1 {
			t.Errorf("%s: the part at %d: %d uses, %d bytes", what, p.at, c.Refs, len(c.Data))
		}
	}
	if d, e := tree.Depth(k, root); d != j.depth || e != api.OK {
		t.Errorf("%s: Depth: %d, %d, not %d", what, d, e, j.depth)
	}
	wantDepth(t, what, len(l), j.depth)
	return j.places
}

// wantDepth asks that so many entries may stand so deep, by the fewest and the most that each part may have.
func wantDepth(t witness.T, what string, n, depth int) {
	t.Helper()
	least, greatest := 1, 6
	for d := 1; d < depth; d++ {
		least, greatest = max(6, 3*least), 6*greatest
	}
	if (depth == 0) != (n == 0) || depth > 0 && (n < least || n > greatest) {
		t.Errorf("%s: %d entries, %d deep", what, n, depth)
	}
}

// P1801: Depth, and the bytes of a tree.

// TestP1801Depth goes up to many entries, once to as many as there may be, and down to none, in several orders.
func TestP1801Depth(t *testing.T) {
	for n, order := range slices.Concat(ordersOf(mixed(300)), [][]api.Entry{mixed(most)}) {
		h := kind(t).Empty(t, api.Sectors, 1+n%3)
		deepest, depth := 0, 0
		step := func(now int) {
			t.Helper()
			d, e := tree.Depth(h.Desk, h.Root)
			if e != api.OK || d < depth-1 || d > depth+1 {
				t.Fatalf("Depth of %d entries: %d, %d, where it was %d", now, d, e, depth)
			}
			wantDepth(t, "Depth", now, d)
			if d != depth || now < 20 || now%100 == 0 {
				h.List = judge(h.Desk, h.Root).entries
				h.Look("Depth")
			}
			depth, deepest = d, max(d, deepest)
		}
		step(0)
		for m, x := range order {
			h.Root = did(t, tree.Add, h, x)
			step(m + 1)
		}
		for m, x := range ordersOf(order)[2-n%3] {
			h.Root = did(t, tree.Drop, h, x)
			step(len(order) - m - 1)
		}
		if h.Root != 0 || depth != 0 || deepest < 4+len(order)/most {
			t.Errorf("root %d, %d deep, and %d at most", h.Root, depth, deepest)
		}
	}
}

// did tells the root behind a change.
func did(t *testing.T, do change, h *entries.Held, l ...api.Entry) int {
	t.Helper()
	root, e := do(h.Desk, h.Gen, h.Root, l...)
	want(t, "change", api.OK, e)
	return root
}

// ordersOf tells l as it is, rising and falling.
func ordersOf(l []api.Entry) [][]api.Entry {
	rising := entries.Sorted(l...)
	falling := slices.Clone(rising)
	slices.Reverse(falling)
	return [][]api.Entry{l, rising, falling}
}

// TestP1801Written holds trees against written-out bytes.
func TestP1801Written(t *testing.T) {
	h := kind(t).Empty(t, api.Least, 2)
	p := strings.Repeat("p", 16)
	h.Adds("three", of(1, 0x102, 0, 7), of(2, 0x102, 0, 0x708), of(1, 0x102, 0, 3))
	one := "\x01\x02\x01\x00\x00" + p + strings.Repeat("\x00", 12)
	two := "\x02\x02\x01\x00\x00" + p + strings.Repeat("p", 12)
	entries.WantChain(t, "three", h.Desk, h.Root, 2, 4, "\x01\x03"+one+"\x03\x00"+one+"\x07\x00"+two+"\x08\x07")
	h.Adds("three more", of(1, 0x102, 0, 4), of(1, 0x102, 0, 5), of(1, 0x102, 0, 6))
	entries.WantChain(t, "six", h.Desk, h.Root, 2, 4, "\x01\x06"+one+"\x03\x00"+one+"\x04\x00"+one+"\x05\x00"+one+"\x06\x00"+one+"\x07\x00"+two+"\x08\x07")
	h.Adds("one more", of(1, 0x102, 0, 8))
	l := judge(h.Desk, h.Root).parts
	if len(l) != 3 {
		t.Fatalf("%d parts of seven entries", len(l))
	}
	data := "\x00\x02"
	for _, p := range l[1:] {
		data += lay(p.entries[0]) + low(p.at)
		entries.WantChain(t, "a leaf", h.Desk, p.at, 2, 4, "\x01"+string([]byte{byte(len(p.entries))})+lay(p.entries...))
	}
	entries.WantChain(t, "seven", h.Desk, h.Root, 2, 4, data)
}

// TestP1801NothingOfDepth has roots and Desks of which Depth tells an error.
func TestP1801NothingOfDepth(t *testing.T) {
	wantNo := func(k *desk.Desk, root int, want api.Errno) {
		t.Helper()
		if d, e := tree.Depth(k, root); d != 0 || e != want {
			t.Errorf("Depth at %d: %d, %d, not error %d", root, d, e, want)
		}
	}
	for _, root := range []int{-1, 0, 1, 2, 1 << 40} {
		wantNo(nil, root, api.ErrArg)
		wantNo(new(desk.Desk), root, api.ErrArg)
	}
	h := kind(t).With(t, api.Least, 1, mixed(30)...)
	want(t, "Sync", api.OK, h.Desk.Sync())
	kept(t, "Depth", h.Disk, h.Desk, func() {
		for _, root := range sample.Outside(29) {
			wantNo(h.Desk, root, api.ErrRange)
		}
		wantNo(h.Desk, 1, api.ErrBroken)
		wantNo(h.Desk, 28, api.ErrBroken)
	})
	junk := entries.PutChain(t, h.Desk, 1, 3, "\x01\x01"+lay(mixed(1)...))
	wantNo(h.Desk, junk, api.ErrBroken)
	h.Disk.Crash()
	wantNo(h.Desk, h.Root, api.ErrOff)
	want(t, "Sync", api.ErrOff, h.Desk.Sync())
	h.Disk.Restore()
	for _, root := range []int{-1, 0, 1, h.Root, 29} {
		wantNo(h.Desk, root, api.ErrOff)
	}
}

// P1802: what is alike for each way to keep entries.

func TestP1802OneByOne(t *testing.T)  { kind(t).AskSteps(t) }
func TestP1802AtOnce(t *testing.T)    { kind(t).AskAtOnce(t) }
func TestP1802NoEntries(t *testing.T) { kind(t).AskNone(t) }
func TestP1802Most(t *testing.T)      { kind(t).AskMost(t) }
func TestP1802ManySteps(t *testing.T) { kind(t).AskManySteps(t) }
func TestP1802Wrong(t *testing.T)     { kind(t).AskWrong(t) }
func TestP1802Forms(t *testing.T)     { kind(t).AskForms(t) }
func TestP1802Places(t *testing.T)    { kind(t).AskPlaces(t) }
func TestP1802Order(t *testing.T)     { kind(t).AskOrder(t) }
func TestP1802Near(t *testing.T)      { kind(t).AskNear(t) }
func TestP1802Find(t *testing.T)      { kind(t).AskFind(t) }
func TestP1802Roots(t *testing.T)     { kind(t).AskRoots(t) }
func TestP1802Stale(t *testing.T)     { kind(t).AskStale(t) }
func TestP1802Desks(t *testing.T)     { kind(t).AskDesks(t) }
func TestP1802NoPower(t *testing.T)   { kind(t).AskNoPower(t) }
func TestP1802Room(t *testing.T)      { kind(t).AskRoom(t) }
func TestP1802TillFull(t *testing.T)  { kind(t).AskTillFull(t) }
func TestP1802Handed(t *testing.T)    { kind(t).AskHanded(t) }
func TestP1802Texts(t *testing.T)     { kind(t).AskHandedTexts(t) }
func TestP1802Answers(t *testing.T)   { kind(t).AskAnswers(t) }
func TestP1802Own(t *testing.T)       { kind(t).AskAnswersOfTheirOwn(t) }
func TestP1802Back(t *testing.T)      { kind(t).AskBack(t) }
func TestP1802Two(t *testing.T)       { kind(t).AskTwo(t) }
func TestP1802Power(t *testing.T)     { kind(t).AskPower(t) }
func TestP1802NotSynced(t *testing.T) { kind(t).AskNotSynced(t) }
func TestP1802Run(t *testing.T)       { kind(t).AskRun(t) }
func TestP1802TwoForms(t *testing.T)  { kind(t).AskTwoForms(t) }
func TestP1802StaleHome(t *testing.T) { kind(t).AskStaleAndCommitted(t) }

// TestP1802OnlyWhatChanges asks that a part that stays as it is stays where it is, and how many are put anew at most.
func TestP1802OnlyWhatChanges(t *testing.T) {
	for gen := 1; gen <= 3; gen++ {
		h := kind(t).Empty(t, 250, gen)
		r := sample.Draw(gen)
		l := mixed(130)
		for n := 0; n < len(l) || len(h.List) > 0; n++ {
			want(t, "Sync", api.OK, h.Desk.Sync())
			before := judge(h.Desk, h.Root)
			if n < len(l) {
				h.Adds("one", l[n])
			} else {
				h.Drops("one", h.List[r.Below(len(h.List))])
			}
			wantStay(t, h, before)
		}
	}
}

// wantStay asks that behind a change of one entry what did not change stands where it stood, and that on each level at most two parts are new.
func wantStay(t *testing.T, h *entries.Held, before judged) {
	t.Helper()
	stood := map[string]int{}
	for _, p := range before.parts {
		stood[bytesOf(p)] = p.at
	}
	behind := judge(h.Desk, h.Root)
	fresh := 0
	for _, p := range behind.parts {
		switch at, ok := stood[bytesOf(p)]; {
		case !ok:
			fresh++
		case at != p.at:
			t.Errorf("a part that did not change stands at %d, not %d", p.at, at)
		}
	}
	if fresh > 2*behind.depth || len(h.Desk.Dirty()) > fresh+1 {
		t.Errorf("%d parts are new, %d sectors to be written, %d deep", fresh, len(h.Desk.Dirty()), behind.depth)
	}
}

// bytesOf tells what a part says.
func bytesOf(p piece) string {
	return string([]byte{byte(p.kind)}) + lay(p.entries...) + low(p.below...)
}

// TestP1802NoRoom has no sector left: nothing can be added, nor taken out, but for all that there is.
func TestP1802NoRoom(t *testing.T) {
	for gen := 1; gen <= 3; gen++ {
		for _, n := range []int{1, 5, 6, 7, 20} {
			h := kind(t).With(t, api.Least, gen, mixed(n)...)
			want(t, "Sync", api.OK, h.Desk.Sync())
			h.Others = append(h.Others, filled(t, h.Desk)...)
			h.NoAdd("full", api.ErrFull, of(1, 4, 4, 4))
			h.NoAdd("full", api.ErrFull, entries.Crowd(30)...)
			h.NoAdd("full", api.ErrDup, of(1, 4, 4, 4), h.List[0])
			h.NoAdd("full", api.ErrArg, of(1, 4, 4, 4), entries.Wrong()[0])
			h.NoDrop("full", api.ErrNone, of(1, 4, 4, 4))
			if n > 1 {
				h.NoDrop("full", api.ErrFull, h.List[0])
				h.NoDrop("full", api.ErrFull, h.List[1:]...)
			}
			h.Look("full")
			wantNoBuild(t, "full", h, gen, api.ErrFull, of(1, 4, 4, 4))
			h.Drops("all", h.List...)
			h.Adds("in what was given back", of(1, 4, 4, 4))
		}
	}
}

// filled lets all sectors be in use; those that were not.
func filled(t *testing.T, k *desk.Desk) []int {
	t.Helper()
	var l []int
	for k.Room().Free() > 0 {
		at, e := k.New(sample.Full('f'))
		want(t, "New", api.OK, e)
		l = append(l, at)
	}
	return l
}

// TestP1802LastRoom has just as many sectors left as are needed, and one fewer.
func TestP1802LastRoom(t *testing.T) {
	for gen := 1; gen <= 3; gen++ {
		for n := range 60 {
			l := mixed(60)
			h := kind(t).With(t, 160, gen, l[:n]...)
			had := judge(h.Desk, h.Root).places
			x := *h
			m := h.Desk.Mark()
			x.Adds("with room", l[n])
			fresh := 0
			for _, at := range judge(h.Desk, x.Root).places {
				if !slices.Contains(had, at) {
					fresh++
				}
			}
			h.Desk.Back(m)
			others := filled(t, h.Desk)
			want(t, "Drop", api.OK, h.Desk.Drop(others[:fresh-1]...))
			h.NoAdd("one too few", api.ErrFull, l[n])
			want(t, "Drop", api.OK, h.Desk.Drop(others[fresh-1]))
			h.Others = append(h.Others, others[fresh:]...)
			h.Adds("just as many", l[n])
		}
	}
}

// TestP1802Unused has parts that are not in use any more: a tree that has one is not changed.
func TestP1802Unused(t *testing.T) {
	for gen := 1; gen <= 3; gen++ {
		h := kind(t).With(t, api.Least, gen, mixed(20)...)
		want(t, "Sync", api.OK, h.Desk.Sync())
		m := h.Desk.Mark()
		for _, at := range judge(h.Desk, h.Root).places {
			want(t, "Drop", api.OK, h.Desk.Drop(at))
			for _, x := range h.List {
				h.NoDrop("not in use", api.ErrRange, x)
				h.NoAdd("not in use", api.ErrRange, entries.Of(1, entries.Hash(x.Print), 999, 999))
			}
			h.NoDrop("not in use", api.ErrRange, h.List...)
			h.NoDrop("not in use", api.ErrNone, of(1, 4, 4, 4))
			h.Desk.Back(m)
		}
		h.Look("in use again")
	}
}
