package tree_test

import (
	"slices"
	"testing"

	"masonry/api"
	"masonry/bucket"
	"masonry/desk"
	"masonry/desks"
	"masonry/entries"
	"masonry/sample"
	"masonry/tree"
)

// both are a tree and a table, each on a Desk of its own, to which the same is done.
type both struct {
	*testing.T
	gen         int
	tree, table *desk.Desk
	twigs, root int // where the tree stands, and the table
	all         []api.Entry
}

// none tells a tree and a table of a form that have nothing.
func none(t *testing.T, sectors, gen int) *both {
	t.Helper()
	_, k := desks.Formatted(t, sectors)
	_, l := desks.Formatted(t, sectors)
	return &both{T: t, gen: gen, tree: k, table: l}
}

// adds adds to both, and tells the error of both.
func (b *both) adds(l ...api.Entry) api.Errno { b.Helper(); return b.do(tree.Add, bucket.Add, l) }

// drops takes out of both, and tells the error of both.
func (b *both) drops(l ...api.Entry) api.Errno { b.Helper(); return b.do(tree.Drop, bucket.Drop, l) }

// do does something to both.
func (b *both) do(first, second change, l []api.Entry) api.Errno {
	b.Helper()
	r, e := first(b.tree, b.gen, b.twigs, l...)
	s, f := second(b.table, b.gen, b.root, l...)
	if e != f || (r == 0) != (s == 0) {
		b.Fatalf("%d entries: the tree tells %d, %d, the table %d, %d", len(l), r, e, s, f)
	}
	if e == api.OK {
		b.twigs, b.root = r, s
	}
	return e
}

// look asks that both tell the same: All, and Find of prints that are there, or not.
func (b *both) look() {
	b.Helper()
	l, e := tree.All(b.tree, b.twigs)
	m, f := bucket.All(b.table, b.root)
	if e != api.OK || f != api.OK || !slices.Equal(l, m) {
		b.Fatalf("the tree tells %d entries, %d, the table %d, %d", len(l), e, len(m), f)
	}
	for n, x := range slices.Concat(l, b.all, entries.Wrong()) {
		if n%(1+len(l)/50) == 0 {
			p, e := tree.Find(b.tree, b.twigs, x.Print)
			q, f := bucket.Find(b.table, b.root, x.Print)
			if e != api.OK || f != api.OK || !slices.Equal(p, q) {
				b.Errorf("Find: the tree tells %v, %d, the table %v, %d", p, e, q, f)
			}
		}
	}
	for gen := range 5 {
		if e, f := tree.Check(b.tree, gen, b.twigs), bucket.Check(b.table, gen, b.root); e != f {
			b.Errorf("Check of the form %d: the tree tells %d, the table %d", gen, e, f)
		}
	}
}

// TestP1803Run adds to a tree and a table, and takes out of them, the same: also what may not be, is there already, or is not there.
func TestP1803Run(t *testing.T) {
	for gen := 1; gen <= 3; gen++ {
		for n, all := range [][]api.Entry{mixed(150), entries.Crowd(120), slices.Concat(entries.Alike(2, 5, 90), entries.OneHash(1, 5, 60)), entries.OnePlace(1, 7, 200)} {
			b := none(t, 400, gen)
			b.all = slices.Concat(all, entries.Wrong())
			r := sample.Draw(40*gen + n)
			told := map[api.Errno]int{}
			for i := range 300 {
				var l []api.Entry
				from := all
				if r.Below(6) == 0 {
					from = b.all
				}
				for range r.One(0, 1, 1, 1, 2, 3, 7, 20) {
					l = append(l, from[r.Below(len(from))])
				}
				if r.Below(2) == 0 {
					told[b.adds(l...)]++
				} else {
					have, _ := tree.All(b.tree, b.twigs)
					if len(have) > 0 && r.Below(3) > 0 {
						at := r.Below(len(have))
						l = have[at : at+r.Below(min(20, len(have)-at)+1)]
					}
					told[b.drops(l...)]++
				}
				if i%10 == 0 {
					b.look()
				}
			}
			b.look()
			if told[api.OK] < 60 || told[api.ErrArg] < 5 || told[api.ErrDup] < 5 || told[api.ErrNone] < 5 || len(told) != 4 {
				t.Errorf("errors told: %v", told)
			}
		}
	}
}

// TestP1803Most goes up to as many entries as there may be, and beyond.
func TestP1803Most(t *testing.T) {
	b := none(t, api.Sectors, 2)
	l := mixed(most + 20)
	for n := 0; n < most; n += 75 {
		want(t, "up", api.OK, b.adds(l[n:n+75]...))
		b.look()
	}
	for _, c := range []struct {
		e api.Errno
		l []api.Entry
	}{
		{api.ErrLong, l[most:]}, {api.ErrLong, l[most : most+1]}, {api.ErrDup, l[:1]}, {api.ErrDup, slices.Concat(l[:1], l[most:])},
		{api.ErrLong, slices.Concat(l[most:], l[:1])}, {api.ErrArg, slices.Concat(entries.Wrong()[:1], l[most:])}, {api.ErrLong, slices.Concat(l[most:], entries.Wrong()[:1])}, {api.OK, nil},
	} {
		want(t, "beyond", c.e, b.adds(c.l...))
	}
	want(t, "not there", api.ErrNone, b.drops(l[most]))
	b.look()
	for n := 0; n < most; n += 125 {
		want(t, "down", api.OK, b.drops(l[n:n+125]...))
		b.look()
	}
	if b.twigs != 0 || b.root != 0 {
		t.Errorf("roots %d and %d", b.twigs, b.root)
	}
}

// TestP1803Roots has roots, forms and Desks that may not be.
func TestP1803Roots(t *testing.T) {
	b := none(t, 300, 1)
	want(t, "Add", api.OK, b.adds(mixed(20)...))
	b.gen = 2
	want(t, "Add of another form", api.OK, b.adds(entries.Crowd(5)...))
	b.look()
	x := *b
	for _, x.gen = range entries.NoForms() {
		for _, l := range [][]api.Entry{nil, mixed(1), entries.Wrong()[:1], entries.Crowd(1)} {
			want(t, "no form", api.ErrArg, x.adds(l...))
			want(t, "no form", api.ErrArg, x.drops(l...))
		}
	}
	x.gen = 1
	for _, root := range append(sample.Outside(189), 1, 188) {
		x.twigs, x.root = root, root
		for _, l := range [][]api.Entry{nil, mixed(1), entries.Wrong()[:1], entries.Crowd(1)} {
			x.adds(l...)
			x.drops(l...)
		}
	}
	b.look()
	x.tree, x.table = nil, nil
	for _, l := range [][]api.Entry{nil, mixed(1), entries.Wrong()[:1]} {
		want(t, "no Desk", api.ErrArg, x.adds(l...))
		want(t, "no Desk", api.ErrArg, x.drops(l...))
	}
}
