package tree

import (
	"slices"

	"masonry/api"
	"masonry/bits"
	"masonry/chain"
	"masonry/desk"
	"masonry/entry"
)

const (
	most    = 6  // entries of a part
	fewest  = 3  // entries of a part that is not the root
	deepest = 10 // parts one below the other
	nowhere = 0  // the place of an empty tree, and of a part that is new

	head = 2 // bytes ahead of the entries of a part
	half = 2 // bytes of a Half
)

// part is a part of a tree. Its chain is one sector: its bytes, 224 at most, are fewer than chain.Part.
type part struct {
	place   int // where it stands on the Desk
	gen     int // the form of its chain
	leaf    bool
	entries []api.Entry
	below   []*part // of a part that is no leaf: what stands below each entry
}

// each asks for all parts.
func each(*part, int) bool { return true }

// first asks for the first one of the parts below each other.
func first(_ *part, n int) bool { return n == 0 }

// read reads the parts of a tree, each ahead of those below it; of these just the ones that are asked for.
func read(k *desk.Desk, root int, ask func(x *part, n int) bool) ([]*part, api.Errno) {
	if e := k.Bad(); e != api.OK { // of an empty tree nothing is read that could tell
		return nil, e
	}
	if root == nowhere {
		return nil, api.OK
	}
	type met struct {
		part  *part
		depth int
	}
	var l []*part
	for stack := []met{{&part{place: root}, 1}}; len(stack) > 0; {
		m := stack[len(stack)-1]
		stack = stack[:len(stack)-1]
		x := m.part
		if e := x.fill(k); e != api.OK {
			return nil, e
		}
		l = append(l, x)
		if !x.leaf && m.depth == deepest || len(l) > k.Size() { // a damaged tree may go on for ever, or have its parts over and over
			return nil, api.ErrBroken
		}
		for n, y := range slices.Backward(x.below) { // the first one is the next one that is met
			if ask(x, n) {
				stack = append(stack, met{y, m.depth + 1})
			}
		}
	}
	return l, api.OK
}

// fill reads what a part has.
func (x *part) fill(k *desk.Desk) api.Errno {
	c, e := chain.Get(k, x.place)
	switch {
	case e != api.OK:
		return e
	case c.Tag != api.Twig || !x.parse(c.Data):
		return api.ErrBroken
	}
	x.gen = c.Gen
	return api.OK
}

// parse reads what a part's chain says, and tells whether it may say that.
func (x *part) parse(data string) bool {
	i := bits.On(data)
	kind, n := i.Byte(), i.Byte()
	x.leaf = kind == 1
	size := entry.Size
	if !x.leaf {
		size += half
	}
	if kind > 1 || n < 1 || n > most || len(data) != head+n*size {
		return false
	}
	for range n {
		x.entries = append(x.entries, entry.Read(i))
		if !x.leaf {
			x.below = append(x.below, &part{place: i.Half()})
		}
	}
	return x.fits()
}

// fits tells whether a part's entries rise, and may be, and whether what is below them stands somewhere.
func (x *part) fits() bool {
	for _, y := range x.entries {
		if !entry.May(y) {
			return false
		}
	}
	for _, y := range x.below {
		if y.place == nowhere {
			return false
		}
	}
	return entry.Rise(x.entries)
}

// put puts a part that is new, and what is new below it.
func (x *part) put(k *desk.Desk, gen int) api.Errno {
	if x.place != nowhere || len(x.entries) == 0 { // below a part that is as it was all is as it was
		return api.OK
	}
	o := new(bits.Out)
	if x.leaf {
		o.Byte(1, len(x.entries))
		entry.Lay(o, x.entries...)
	} else {
		o.Byte(0, len(x.entries))
		for n, y := range x.below {
			if e := y.put(k, gen); e != api.OK {
				return e
			}
			entry.Lay(o, x.entries[n])
			o.Half(y.place)
		}
	}
	data, _ := o.End()
	var e api.Errno
	x.place, e = chain.Put(k, gen, api.Twig, data)
	return e
}

// entriesOf tells the entries of all leaves among parts, one leaf behind the other.
func entriesOf(parts []*part) []api.Entry {
	var l []api.Entry
	for _, x := range parts {
		if x.leaf {
			l = append(l, x.entries...)
		}
	}
	return l
}

// places tells where parts stand.
func places(parts []*part) []int {
	var l []int
	for _, x := range parts {
		l = append(l, x.place)
	}
	return l
}

// sound tells whether all parts of a tree, as they were read, have a tree's shape.
func sound(parts []*part) bool {
	if len(parts) == 0 {
		return true
	}
	root := parts[0]
	if !root.leaf && len(root.entries) == 1 {
		return false
	}
	_, ok := root.height()
	return ok && entry.Rise(entriesOf(parts))
}

// height tells how deep a part and what is below it are, if all leaves are equally deep, no part below it has too few, and each entry of one that is no leaf is the least below it.
func (x *part) height() (int, bool) {
	h := 0
	for n, y := range x.below {
		has, ok := y.height()
		if !ok || n > 0 && has != h || len(y.entries) < fewest || y.entries[0] != x.entries[n] {
			return 0, false
		}
		h = has
	}
	return h + 1, true
}
