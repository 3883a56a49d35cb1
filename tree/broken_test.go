package tree_test

import (
	"slices"
	"strings"
	"testing"

	"masonry/api"
	"masonry/chain"
	"masonry/desk"
	"masonry/entries"
	"masonry/sample"
	"masonry/tree"
)

// rough is a part of a tree that is laid by hand, with what is below it.
type rough struct {
	gen, tag, kind int
	more           int // by how many it says that it has more than it has
	entries        []api.Entry
	below          []*rough
	behind         string // bytes behind the entries
	cut            int    // how many bytes are missing at the end
	data           string // if it is not "": all of its bytes
	place          int    // if it is not 0: where it is said to stand; -1: nowhere
}

// put lays a part once, behind what is below it; its place.
func (x *rough) put(t *testing.T, k *desk.Desk) int {
	t.Helper()
	if x.place != 0 {
		return max(0, x.place)
	}
	data := string([]byte{byte(x.kind), byte(len(x.entries) + x.more)})
	for n, y := range x.entries {
		data += lay(y)
		if n < len(x.below) {
			data += low(x.below[n].put(t, k))
		}
	}
	data = data[:len(data)-x.cut] + x.behind
	if x.data != "" {
		data = x.data
	}
	x.place = entries.PutChain(t, k, x.gen, x.tag, data)
	return x.place
}

// parts tells a part and all below it.
func (x *rough) parts() []*rough {
	l := []*rough{x}
	for _, y := range x.below {
		l = append(l, y.parts()...)
	}
	return l
}

// hand lays trees by hand: each leaf takes the next ones of its entries.
type hand struct {
	gen int
	l   []api.Entry
}

// leaf tells a leaf of n entries.
func (h *hand) leaf(n int) *rough {
	x := &rough{gen: h.gen, tag: twig, kind: leaf, entries: slices.Clone(h.l[:n])}
	h.l = h.l[n:]
	return x
}

// leaves tells leaves of so many entries each.
func (h *hand) leaves(l ...int) []*rough {
	var parts []*rough
	for _, n := range l {
		parts = append(parts, h.leaf(n))
	}
	return parts
}

// above tells a part above others.
func (h *hand) above(below ...*rough) *rough {
	x := &rough{gen: h.gen, tag: twig, kind: branch, below: below}
	for _, y := range below {
		x.entries = append(x.entries, y.entries[0])
	}
	return x
}

// good tells trees of each shape that there may be, by number; nil where there is none more.
func good(gen, n int) *rough {
	h := &hand{gen, entries.Sorted(mixed(200)...)}
	switch n {
	case 0:
		return h.leaf(1)
	case 1:
		return h.leaf(2)
	case 2:
		return h.leaf(6)
	case 3:
		return h.above(h.leaves(3, 3)...)
	case 4:
		return h.above(h.leaves(6, 3, 4, 5, 6, 6)...)
	case 5:
		return h.above(h.above(h.leaves(3, 3, 3)...), h.above(h.leaves(4, 6, 3, 5)...))
	case 6:
		return h.above(h.above(h.leaves(3, 4, 3)...), h.above(h.leaves(3, 6, 3, 3, 3, 5)...), h.above(h.leaves(3, 3, 3)...))
	case 7:
		var l []*rough
		for range 2 {
			l = append(l, h.above(h.above(h.leaves(3, 3, 3)...), h.above(h.leaves(3, 4, 3)...), h.above(h.leaves(3, 3, 3)...)))
		}
		return h.above(l...)
	}
	return nil
}

// goods tells how many trees good has.
const goods = 8

// entriesOf tells the entries of the leaves of a tree.
func (x *rough) entriesOf() []api.Entry {
	var l []api.Entry
	for _, p := range x.parts() {
		if p.kind == leaf {
			l = append(l, p.entries...)
		}
	}
	return l
}

// TestP1801Laid has sound trees that were laid by hand, of all shapes.
func TestP1801Laid(t *testing.T) {
	for gen := 1; gen <= 3; gen++ {
		for n := range goods {
			h := kind(t).Empty(t, 250, gen)
			x := good(gen, n)
			h.Root, h.List = x.put(t, h.Desk), x.entriesOf()
			h.Look("laid by hand")
			m, was := h.Desk.Mark(), *h
			for _, y := range h.List {
				h.Drops("one", y)
				h.Desk.Back(m)
				*h = was
				h.Adds("one", api.Entry{Print: y.Print, At: 1 + y.At%1999})
				h.Desk.Back(m)
				*h = was
			}
			h.Adds("laid by hand", entries.Crowd(20)...)
			h.Drops("laid by hand", h.List[len(h.List)/2:]...)
			h.Drops("laid by hand", h.List...)
		}
	}
}

// wantUnsound asks that Check tells of a tree that it is none, that nothing is added to it, or taken out, and that the other calls end, and change nothing.
func wantUnsound(t *testing.T, what string, h *entries.Held, l []api.Entry) {
	t.Helper()
	kept(t, what, h.Disk, h.Desk, func() {
		t.Helper()
		want(t, what+": Check", api.ErrBroken, tree.Check(h.Desk, h.Gen, h.Root))
		wantUnchanged(t, what, h, l)
		all, e := tree.All(h.Desk, h.Root)
		if !slices.IsSortedFunc(all, entries.Compare) || e != api.OK && all != nil {
			t.Errorf("%s: All: %d entries, %d", what, len(all), e)
		}
		sectors, e := tree.Sectors(h.Desk, h.Root)
		if !slices.Equal(slices.Compact(slices.Sorted(slices.Values(sectors))), sectors) || e != api.OK && sectors != nil {
			t.Errorf("%s: Sectors: %v, %d", what, sectors, e)
		}
		if d, e := tree.Depth(h.Desk, h.Root); (e == api.OK) != (d > 0) || d > 10 {
			t.Errorf("%s: Depth: %d, %d", what, d, e)
		}
		for n := 0; n < len(l); n += 1 + len(l)/10 {
			places, e := tree.Find(h.Desk, h.Root, l[n].Print)
			if !slices.IsSorted(places) || e != api.OK && places != nil {
				t.Errorf("%s: Find: %v, %d", what, places, e)
			}
		}
	})
}

// wantUnchanged asks that nothing is added to a tree that is none, or taken out: the error is ErrBroken, or ErrRange where it names a place that is none.
func wantUnchanged(t *testing.T, what string, h *entries.Held, l []api.Entry) {
	t.Helper()
	_, e := chain.Get(h.Desk, h.Root)
	if e == api.OK {
		e = api.ErrBroken
	}
	if outside(h.Desk, h.Root, 0) {
		e = api.ErrRange
	}
	for _, list := range [][]api.Entry{nil, {of(1, 4, 4, 4)}, l[:1], l[len(l)-1:], l} {
		h.WantNoRoot(what+": Add", tree.Add, h.Gen, h.Root, e, list...)
		h.WantNoRoot(what+": Drop", tree.Drop, h.Gen, h.Root, e, list...)
	}
}

// outside tells whether the first thing that is wrong on the way through a tree is a place that is no home sector.
func outside(k *desk.Desk, at, depth int) bool {
	p, ok := pieceAt(k, at)
	if !ok || depth > 12 {
		_, e := chain.Get(k, at)
		return e == api.ErrRange
	}
	for _, kid := range p.below {
		if outside(k, kid, depth+1) {
			return true
		}
		if _, ok := pieceAt(k, kid); !ok {
			return false
		}
	}
	return false
}

// spoiler is a way to make a tree none by one of its parts.
type spoiler struct {
	what string
	do   func(x *rough)
}

// anySpoilers tells what spoils each part.
func anySpoilers() []spoiler {
	var l []spoiler
	add := func(what string, do func(x *rough)) { l = append(l, spoiler{what, do}) }
	for _, tag := range []int{0, 1, 2, 3, 5, 14, 200} {
		add("another tag", func(x *rough) { x.tag = tag })
	}
	for _, kind := range []int{2, 3, 4, 128, 129, 254, 255} {
		add("neither a leaf nor none", func(x *rough) { x.kind = kind })
	}
	add("a leaf that is none, or the other way round", func(x *rough) { x.kind = 1 - x.kind })
	for _, n := range []int{1, -1, 2, 6, 7, 128, 255} {
		add("more entries than it has, or fewer", func(x *rough) { x.more = n })
	}
	for _, n := range []int{1, 2, 34, 35, 36, 37, 70, 74} {
		add("zero bytes behind the entries", func(x *rough) { x.behind = strings.Repeat("\x00", n) })
		add("bytes behind the entries", func(x *rough) { x.behind = strings.Repeat("x", n) })
	}
	for _, n := range []int{1, 2, 35} {
		add("bytes missing", func(x *rough) { x.cut = n })
	}
	for _, data := range []string{"\x00", "\x01", "\x01\x00", "\x00\x00", "\x02\x00", strings.Repeat("\x01", 500), strings.Repeat("\x00", 237)} {
		add("other bytes", func(x *rough) { x.data = data })
	}
	for _, at := range []int{0, 2000, 2001, 32768, 65535} {
		add("an entry of no place", func(x *rough) { x.entries[0].At = at })
		add("an entry of no place", func(x *rough) { x.entries[len(x.entries)-1].At = at })
	}
	for _, kind := range []int{0, 3, 129, 255} {
		add("an entry of no kind", func(x *rough) { x.entries[len(x.entries)-1].Print.Kind = kind })
		add("an entry of no kind", func(x *rough) { x.entries[0].Print.Kind = kind })
	}
	for n := range 12 {
		add("bytes behind the shorter print", func(x *rough) {
			p := &x.entries[0].Print // the least one is of the first kind
			p.Sum += strings.Repeat("\x00", n) + "\x01"
		})
	}
	return append(l, placeSpoilers()...)
}

// placeSpoilers tells what lets a part not stand where it is said to.
func placeSpoilers() []spoiler {
	var l []spoiler
	for _, at := range []int{-1, 1, 48, 49, 50, 1889, 2000, 65535} { // of a Desk of 49 home sectors
		l = append(l, spoiler{"another place", func(x *rough) { x.place = at }})
	}
	return l
}

// leafSpoilers tells what spoils each leaf that has two entries or more.
func leafSpoilers() []spoiler {
	var l []spoiler
	add := func(what string, do func(x *rough)) { l = append(l, spoiler{what, do}) }
	last := func(x *rough) int { return len(x.entries) - 1 }
	add("entries out of order", func(x *rough) { x.entries[0], x.entries[1] = x.entries[1], x.entries[0] })
	add("entries out of order", func(x *rough) { n := last(x); x.entries[n-1], x.entries[n] = x.entries[n], x.entries[n-1] })
	add("entries falling", func(x *rough) { slices.Reverse(x.entries) })
	add("an entry twice", func(x *rough) { x.entries[1] = x.entries[0] })
	add("an entry twice", func(x *rough) { x.entries[last(x)] = x.entries[last(x)-1] })
	add("more than there may be", func(x *rough) {
		for n := len(x.entries); n <= 6; n++ {
			y := x.entries[last(x)]
			y.At = min(1999, y.At+1)
			x.entries = append(x.entries, y)
		}
	})
	return l
}

// belowSpoilers tells what spoils each leaf that is not the root: its entries and those beside it do not rise, or it is not as deep as others, or has too few.
func belowSpoilers() []spoiler {
	var l []spoiler
	add := func(what string, do func(x *rough)) { l = append(l, spoiler{what, do}) }
	for n := 1; n < 3; n++ {
		add("too few", func(x *rough) { x.entries = x.entries[:n] })
	}
	add("another least entry", func(x *rough) { x.entries[0] = of(1, 0, 0, 1) })
	add("another least entry", func(x *rough) { x.entries = x.entries[1:] })
	add("an entry above those of the next one", func(x *rough) { x.entries[len(x.entries)-1] = of(2, 65535, 65535, 1999) })
	add("deeper than the others", func(x *rough) {
		y := *x
		*x = *(&hand{gen: x.gen}).above(&y)
	})
	add("deeper than the others", func(x *rough) {
		h := &hand{x.gen, entries.Sorted(append(entries.OneHash(2, 65535, 20), x.entries[0])...)}
		*x = *h.above(h.leaves(3, 3, 3)...)
	})
	add("none at all", func(x *rough) { x.entries = nil })
	return l
}

// branchSpoilers tells what spoils each part that is no leaf.
func branchSpoilers() []spoiler {
	var l []spoiler
	add := func(what string, do func(x *rough)) { l = append(l, spoiler{what, do}) }
	for n := range 2 {
		at := func(x *rough) int { return n * (len(x.entries) - 1) }
		add("an entry that is not the least below it", func(x *rough) { x.entries[at(x)] = x.below[at(x)].entriesOf()[1] })
		add("an entry that is less than all below it", func(x *rough) { x.entries[at(x)].At-- })
		add("an entry of another print", func(x *rough) { p := &x.entries[at(x)].Print; p.Sum = sample.Changed(p.Sum, 19, 1) })
		add("one part in two places", func(x *rough) { x.below[at(x)] = x.below[len(x.below)-1-at(x)] })
		add("one that stands nowhere", func(x *rough) { x.below[at(x)] = &rough{place: -1} })
	}
	add("the same below each", func(x *rough) {
		y := (&hand{x.gen, slices.Clone(x.entriesOf())}).leaf(3)
		x.below = slices.Repeat([]*rough{y}, len(x.below))
	})
	add("parts out of order", func(x *rough) { x.below[0], x.below[1] = x.below[1], x.below[0] })
	add("parts and entries out of order", func(x *rough) {
		x.below[0], x.below[1] = x.below[1], x.below[0]
		x.entries[0], x.entries[1] = x.entries[1], x.entries[0]
	})
	add("a part twice", func(x *rough) { x.below[1], x.entries[1] = x.below[0], x.entries[0] })
	add("a part less deep", func(x *rough) {
		if x.below[0].kind == branch {
			x.below[0] = x.below[0].below[0]
		} else {
			x.below[0] = (&hand{gen: x.gen}).above(x.below[0])
		}
	})
	add("one part alone", func(x *rough) { x.below, x.entries = x.below[:1], x.entries[:1] })
	add("one part alone, the last one", func(x *rough) { n := len(x.below) - 1; x.below, x.entries = x.below[n:], x.entries[n:] })
	add("none at all", func(x *rough) { x.below, x.entries = nil, nil })
	return l
}

// fewSpoilers tells what spoils each part that is no leaf, nor the root.
func fewSpoilers() []spoiler {
	return []spoiler{
		{"too few parts", func(x *rough) { x.below, x.entries = x.below[:2], x.entries[:2] }},
		{"too few parts", func(x *rough) { n := len(x.below) - 2; x.below, x.entries = x.below[n:], x.entries[n:] }},
		{"leaves among others", func(x *rough) { *x = *x.below[0] }},
	}
}

// spoilersOf tells what spoils a part of a tree.
func spoilersOf(x *rough, root bool) []spoiler {
	l := anySpoilers()
	switch {
	case x.kind == branch:
		l = append(l, branchSpoilers()...)
		if !root {
			l = append(l, fewSpoilers()...)
		}
	case !root:
		l = append(l, belowSpoilers()...)
	}
	if x.kind == leaf && len(x.entries) > 1 {
		l = append(l, leafSpoilers()...)
	}
	return l
}

// TestP1801Spoilt has trees laid by hand of which one thing alone is not so, at each of their parts; at some, if there are many.
func TestP1801Spoilt(t *testing.T) {
	sound, not := 0, 0
	for n := range goods {
		for at, part := range good(1, n).parts() {
			if n > 5 && at%4 != 1 && at > 0 {
				continue
			}
			for m, s := range spoilersOf(part, at == 0) {
				gen := 1 + (n+at+m)%3
				h := kind(t).Empty(t, 160, gen)
				x := good(gen, n)
				l := x.entriesOf()
				spoilt := x.parts()[at]
				s.do(spoilt)
				if at == 0 && spoilt.place != 0 { // it is the root itself that is said to stand elsewhere
					continue
				}
				h.Root = x.put(t, h.Desk)
				if judge(h.Desk, h.Root).sound { // what is greater than all that is behind it may be behind all
					want(t, s.what, api.OK, tree.Check(h.Desk, gen, h.Root))
					sound++
					continue
				}
				wantUnsound(t, s.what, h, l)
				not++
			}
		}
	}
	if sound > 20 || not < 3000 {
		t.Errorf("%d sound, %d not", sound, not)
	}
}

// TestP1801OtherForm has one part of another form: nothing but Check tells that.
func TestP1801OtherForm(t *testing.T) {
	for gen := 1; gen <= 3; gen++ {
		for n := range goods {
			for at := range good(gen, n).parts() {
				h := kind(t).Empty(t, 250, gen)
				x := good(gen, n)
				x.parts()[at].gen = gen%3 + 1
				root := x.put(t, h.Desk)
				for form := range 5 {
					e := api.ErrBroken
					if len(x.parts()) == 1 && form == gen%3+1 {
						e = api.OK
					}
					want(t, "a part of another form", e, tree.Check(h.Desk, form, root))
				}
				if got, e := tree.All(h.Desk, root); !slices.Equal(got, x.entriesOf()) || e != api.OK {
					t.Errorf("All: %d entries, %d", len(got), e)
				}
			}
		}
	}
}

// lists tells the entries of trees of one part, and of several, on one level and on several.
func lists() [][]api.Entry {
	return [][]api.Entry{mixed(1), mixed(3), mixed(6), mixed(8), entries.Alike(1, 9, 13), mixed(44)}
}

func TestP1802Spoilt(t *testing.T) { kind(t).AskSpoilt(t, lists()) }

// TestP1801Judged changes each byte of each part of a tree: just those are sound that should be.
func TestP1801Judged(t *testing.T) {
	good, bad := 0, 0
	for gen, l := range lists() {
		gen = 1 + gen%3
		h := kind(t).With(t, api.Least, gen, l...)
		m := h.Desk.Mark()
		for _, at := range judge(h.Desk, h.Root).places {
			c, _ := chain.Get(h.Desk, at)
			for n := range c.Data {
				for _, by := range []byte{1, 2, 3, 7, 16, 128, 255} {
					entries.LayAgain(t, h.Desk, []int{at}, c, sample.Changed(c.Data, n, by))
					e := api.OK
					if !judge(h.Desk, h.Root).sound {
						e = api.ErrBroken
						bad++
					} else {
						good++
					}
					if got := tree.Check(h.Desk, gen, h.Root); got != e {
						t.Fatalf("the part at %d, byte %d changed by %d: %d, not %d", at, n, by, got, e)
					}
					h.Desk.Back(m)
				}
			}
		}
	}
	if good < 1000 || bad < 1000 {
		t.Errorf("%d sound, %d not", good, bad)
	}
}

// TestP1801NextPlace has parts whose chains go on, also behind all home sectors, or have a sector more than they need.
func TestP1801NextPlace(t *testing.T) {
	for gen := 1; gen <= 3; gen++ {
		h := kind(t).With(t, api.Least, gen, mixed(14)...)
		m := h.Desk.Mark()
		for _, at := range judge(h.Desk, h.Root).places {
			c, _ := chain.Get(h.Desk, at)
			for next := range 33 {
				for _, data := range []string{c.Data, (c.Data + strings.Repeat("\x00", 236))[:236]} {
					want(t, "Set", api.OK, h.Desk.Set(at, entries.Seal(t, gen, twig, 0, 1, next, data)))
					if next > 0 || len(data) == 236 {
						wantUnsound(t, "a chain that goes on", h, h.List)
					}
					h.Desk.Back(m)
				}
			}
			long := entries.PutChain(t, h.Desk, gen, twig, c.Data+strings.Repeat("\x00", 236))
			want(t, "a longer chain", api.ErrBroken, tree.Check(h.Desk, gen, long))
			h.Desk.Back(m)
		}
	}
}

// TestP1801Round has parts that stand below themselves, or above their root.
func TestP1801Round(t *testing.T) {
	for gen := 1; gen <= 3; gen++ {
		for n := 3; n < goods; n++ {
			h := kind(t).Empty(t, 250, gen)
			x := good(gen, n)
			h.Root = x.put(t, h.Desk)
			m := h.Desk.Mark()
			l := judge(h.Desk, h.Root).parts
			for _, p := range l {
				if p.kind == leaf {
					continue
				}
				for _, up := range l {
					for kid := range p.below {
						if up.kind == leaf || !slices.Contains(judge(h.Desk, up.at).places, p.at) {
							continue
						}
						q := p
						q.below = slices.Clone(p.below)
						q.below[kid] = up.at
						want(t, "Set", api.OK, h.Desk.Set(p.at, entries.Seal(t, gen, twig, 0, 1, 0, laidOf(q))))
						wantRound(t, h, x.entriesOf())
						h.Desk.Back(m)
					}
				}
			}
		}
	}
}

// laidOf tells the bytes of a part.
func laidOf(p piece) string {
	data := string([]byte{byte(p.kind), byte(len(p.entries))})
	for n, x := range p.entries {
		data += lay(x)
		if p.kind == branch {
			data += low(p.below[n])
		}
	}
	return data
}

// wantRound asks that a tree that goes round is none, and that each call ends.
func wantRound(t *testing.T, h *entries.Held, l []api.Entry) {
	t.Helper()
	wantUnsound(t, "round", h, l)
	h.WantNoList("round", h.Root, api.ErrBroken)
}

// TestP1801Deep has parts of one entry each, one below the other, 10 of them at most.
func TestP1801Deep(t *testing.T) {
	for gen := 1; gen <= 3; gen++ {
		for n := 2; n <= 14; n++ {
			h := kind(t).Empty(t, 250, gen)
			x := (&hand{gen, mixed(9)}).leaf(1)
			for range n - 1 {
				x = (&hand{gen: gen}).above(x)
			}
			h.Root = x.put(t, h.Desk)
			wantUnsound(t, "deep", h, mixed(9))
			if n > 10 {
				h.WantNoList("too deep", h.Root, api.ErrBroken)
				_, e := tree.Find(h.Desk, h.Root, x.entries[0].Print)
				_, f := tree.Depth(h.Desk, h.Root)
				want(t, "Find", api.ErrBroken, e)
				want(t, "Depth", api.ErrBroken, f)
			} else if d, e := tree.Depth(h.Desk, h.Root); d != n || e != api.OK {
				t.Errorf("Depth: %d, %d, not %d", d, e, n)
			}
		}
	}
}

// TestP1801ManyPlaces has parts each of which stands six times below the next one, so that there would be more entries than can be gone through.
func TestP1801ManyPlaces(t *testing.T) {
	l := entries.Sorted(entries.Alike(1, 9, 6)...)
	for gen := 1; gen <= 3; gen++ {
		h := kind(t).Empty(t, 250, gen)
		x := (&hand{gen, l}).leaf(6)
		for depth := 2; depth <= 10; depth++ {
			x = &rough{gen: gen, tag: twig, kind: branch, entries: l, below: slices.Repeat([]*rough{x}, 6)}
			h.Root = x.put(t, h.Desk)
			want(t, "many places: Check", api.ErrBroken, tree.Check(h.Desk, gen, h.Root))
			h.WantNoRoot("many places: Add", tree.Add, gen, h.Root, api.ErrBroken, of(1, 4, 4, 4))
			h.WantNoRoot("many places: Drop", tree.Drop, gen, h.Root, api.ErrBroken, l...)
			if s, e := tree.Sectors(h.Desk, h.Root); s != nil || e != api.ErrBroken {
				t.Errorf("Sectors: %v, %d", s, e)
			}
			all, e := tree.All(h.Desk, h.Root)
			places, f := tree.Find(h.Desk, h.Root, l[0].Print)
			if depth > 4 && (all != nil || places != nil || e != api.ErrBroken || f != api.ErrBroken) {
				t.Errorf("%d deep: All: %d, %d, Find: %d, %d", depth, len(all), e, len(places), f)
			}
			if d, e := tree.Depth(h.Desk, h.Root); d != depth || e != api.OK {
				t.Errorf("Depth: %d, %d, not %d", d, e, depth)
			}
		}
	}
}

// TestP1802FindOrder has leaves out of order, with entries of one print, below entries that rise: what is told rises.
func TestP1802FindOrder(t *testing.T) {
	for gen := 1; gen <= 3; gen++ {
		h := kind(t).Empty(t, api.Least, gen)
		l := entries.Sorted(entries.Alike(1, 9, 9)...)
		x := (&hand{gen, l}).leaves(3, 3, 3)
		y := (&hand{gen: gen}).above(x...)
		y.below = []*rough{x[2], x[0], x[1]}
		h.Root = y.put(t, h.Desk)
		wantUnsound(t, "out of order", h, l)
		all, e := tree.All(h.Desk, h.Root)
		places, f := tree.Find(h.Desk, h.Root, l[0].Print)
		if !slices.Equal(all, l) || len(places) != 9 || !slices.IsSorted(places) || e != api.OK || f != api.OK {
			t.Errorf("All: %d entries, %d, Find: %v, %d", len(all), e, places, f)
		}
	}
}

// TestP1802FindReads asks that Find reads only the parts that may have a print: it tells of it beside a leaf that is spoilt.
func TestP1802FindReads(t *testing.T) {
	for gen := 1; gen <= 3; gen++ {
		h := kind(t).With(t, 200, gen, entries.OnePlace(1, 7, 120)...)
		m := h.Desk.Mark()
		for _, spoilt := range judge(h.Desk, h.Root).parts {
			if spoilt.kind == branch {
				continue
			}
			want(t, "Set", api.OK, h.Desk.Set(spoilt.at, sample.Full('x')))
			for _, x := range h.List {
				places, e := tree.Find(h.Desk, h.Root, x.Print)
				switch at := slices.Index(spoilt.entries, x); {
				case at >= 0:
					want(t, "Find in it", api.ErrBroken, e)
				case e == api.OK && slices.Equal(places, []int{7}):
				case e == api.ErrBroken && entries.Compare(x, spoilt.entries[len(spoilt.entries)-1]) > 0 && isNext(h.List, spoilt.entries, x): // it could have such a print, too
				default:
					t.Errorf("Find beside it: %v, %d", places, e)
				}
			}
			h.Desk.Back(m)
		}
	}
}

// isNext tells whether an entry is the next one behind others.
func isNext(all, l []api.Entry, x api.Entry) bool {
	return slices.Index(all, x) == slices.Index(all, l[len(l)-1])+1
}

// TestP1801HomeOfAll has a part where all begins: no part of a tree stands there.
func TestP1801HomeOfAll(t *testing.T) {
	for gen := 1; gen <= 3; gen++ {
		h := kind(t).Empty(t, api.Least, gen)
		l := entries.Sorted(mixed(7)...)
		x := (&hand{gen, l}).leaves(3, 4)
		y := (&hand{gen: gen}).above(x...)
		first, _ := pieceAt(h.Desk, x[0].put(t, h.Desk))
		want(t, "Set", api.OK, h.Desk.Set(0, entries.Seal(t, gen, twig, 0, 1, 0, laidOf(first))))
		x[0].place = -1
		h.Root = y.put(t, h.Desk)
		kept(t, "where all begins", h.Disk, h.Desk, func() {
			h.WantNoList("where all begins", h.Root, api.ErrBroken)
			h.WantNoRoot("where all begins: Add", tree.Add, gen, h.Root, api.ErrBroken, of(1, 4, 4, 4))
			h.WantNoRoot("where all begins: Drop", tree.Drop, gen, h.Root, api.ErrBroken, l...)
		})
	}
}
