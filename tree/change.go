package tree

import (
	"slices"

	"masonry/api"
	"masonry/desk"
	"masonry/entry"
)

const maxEntries = 1500

// tree is a tree as it is to be.
type tree struct {
	desk  *desk.Desk
	root  *part // a leaf of no entries, if it is empty
	count int   // how many entries there are
	had   []int // where its parts stood
	gone  []int // those of them that are to be given back
}

// step is a part on the way down a tree, and at which of its entries the way goes on, or ends.
type step struct {
	part *part
	n    int
}

// open reads a tree that is to be changed: all of it, since no part tells how many entries there are; one that is not sound is left as it is.
func open(k *desk.Desk, root int) (*tree, api.Errno) {
	l, e := read(k, root, each)
	switch {
	case e != api.OK:
		return nil, e
	case !sound(l):
		return nil, api.ErrBroken
	}
	t := &tree{desk: k, root: &part{leaf: true}, count: len(entriesOf(l)), had: places(l)}
	if len(l) > 0 {
		t.root = l[0]
	}
	return t, api.OK
}

// add adds an entry.
func (t *tree) add(x api.Entry) api.Errno {
	if !entry.May(x) {
		return api.ErrArg
	}
	way, there := t.down(x)
	switch {
	case there:
		return api.ErrDup
	case t.count >= maxEntries:
		return api.ErrLong
	}
	end := way[len(way)-1]
	end.part.entries = slices.Insert(end.part.entries, end.n, x)
	t.count++
	t.mend(way)
	return api.OK
}

// drop takes an entry out.
func (t *tree) drop(x api.Entry) api.Errno {
	way, there := t.down(x)
	if !there {
		return api.ErrNone
	}
	end := way[len(way)-1]
	end.part.entries = slices.Delete(end.part.entries, end.n, end.n+1)
	t.count--
	t.mend(way)
	return api.OK
}

// down goes down to the leaf where an entry stands, or would stand, and tells whether it is there.
func (t *tree) down(x api.Entry) (way []step, there bool) {
	p := t.root
	for !p.leaf {
		n, there := slices.BinarySearchFunc(p.entries, x, entry.Compare)
		if !there { // below the one ahead of it; what is less than all goes to the least
			n = max(0, n-1)
		}
		way = append(way, step{p, n})
		p = p.below[n]
	}
	n, there := slices.BinarySearchFunc(p.entries, x, entry.Compare)
	return append(way, step{p, n}), there
}

// mend lets each part of a way have as many as it may again, from the leaf on up to the root.
func (t *tree) mend(way []step) {
	for _, s := range slices.Backward(way[:len(way)-1]) {
		t.renew(s.part, s.n)
	}
	t.leave(t.root)
	t.root = crown(t.root)
}

// renew cuts anew what is below the entry n of a part; with what is beside it, if it is too little by itself.
func (t *tree) renew(x *part, n int) {
	from, to := n, n+1
	if len(x.below[n].entries) < fewest {
		if to < len(x.below) {
			to++
		} else {
			from--
		}
	}
	all := &part{leaf: x.below[n].leaf}
	for _, y := range x.below[from:to] {
		t.leave(y)
		all.entries = append(all.entries, y.entries...)
		all.below = append(all.below, y.below...)
	}
	l := all.cut()
	x.entries = slices.Replace(x.entries, from, to, leasts(l)...)
	x.below = slices.Replace(x.below, from, to, l...)
}

// leave lets the place of a part be given back in the end; one that is new has none.
func (t *tree) leave(x *part) {
	if x.place != nowhere {
		t.gone = append(t.gone, x.place)
	}
}

// crown makes a tree of a part that may have too many, or stand above one alone; its root.
func crown(x *part) *part {
	l := x.cut()
	for len(l) > 1 {
		up := &part{entries: leasts(l), below: l}
		l = up.cut()
	}
	if len(l[0].below) == 1 {
		return l[0].below[0]
	}
	return l[0]
}

// cut cuts a part into as few as may be, none of which has too many, evenly: so none has too few either, where there are several.
func (x *part) cut() []*part {
	has := len(x.entries)
	n := (has-1)/most + 1 // one also of none
	var l []*part
	for k := range n {
		from, to := k*has/n, (k+1)*has/n
		y := &part{leaf: x.leaf, entries: slices.Clone(x.entries[from:to])} // of its own, since it may grow
		if !x.leaf {
			y.below = slices.Clone(x.below[from:to])
		}
		l = append(l, y)
	}
	return l
}

// leasts tells the least entry of each part.
func leasts(parts []*part) []api.Entry {
	var l []api.Entry
	for _, x := range parts {
		l = append(l, x.entries[0])
	}
	return l
}

// write puts what is new, and only then gives back what is not any more: so nothing is put where the tree stood. The new root.
func (t *tree) write(gen int) (int, api.Errno) {
	r := t.desk.Room()
	for _, at := range t.had {
		if !r.Used(at) { // what is put could stand there, too
			return 0, api.ErrRange
		}
	}
	before := t.desk.Mark()
	e := t.root.put(t.desk, gen)
	if e == api.OK {
		e = t.desk.Drop(t.gone...)
	}
	if e != api.OK {
		t.desk.Back(before)
		return 0, e
	}
	return t.root.place, api.OK
}
