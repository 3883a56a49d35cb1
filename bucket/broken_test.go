package bucket_test

import (
	"slices"
	"strings"
	"testing"

	"masonry/api"
	"masonry/bucket"
	"masonry/chain"
	"masonry/desk"
	"masonry/entries"
	"masonry/sample"
)

// rough is a table that is laid by hand.
type rough struct {
	gen, tag, count int
	buckets         []heap
	behind          string // bytes behind the places
	cut             int    // how many bytes are missing at the end
}

// heap is a bucket that is laid by hand.
type heap struct {
	gen, tag int
	data     string
	place    int // if it is not 0: where it is said to stand; -1: nowhere
}

// good tells the table of entries.
func good(gen int, l []api.Entry) *rough {
	x := &rough{gen: gen, tag: 3, count: len(l)}
	for _, p := range parts(l) {
		x.buckets = append(x.buckets, heap{gen: gen, tag: 13, data: lay(p...)})
		if len(p) == 0 {
			x.buckets[len(x.buckets)-1].place = -1
		}
	}
	return x
}

// put lays a table; its root.
func (x *rough) put(t *testing.T, k *desk.Desk) int {
	t.Helper()
	var places []int
	for _, b := range x.buckets {
		place := max(b.place, 0)
		if b.place == 0 {
			place = entries.PutChain(t, k, b.gen, b.tag, b.data)
		}
		places = append(places, place)
	}
	data := low(x.count) + low(places...) + x.behind
	return entries.PutChain(t, k, x.gen, x.tag, data[:len(data)-x.cut])
}

// lists tells the entries of tables of one bucket and of several, some of them empty, some of more than one sector; each of them has an entry of either kind in its first bucket, and at least two.
func lists() [][]api.Entry {
	long := slices.Concat(entries.OneHash(1, 6, 9), entries.OneHash(2, 6, 5), []api.Entry{of(1, 0, 1, 9), of(2, 0, 1, 9)})
	return [][]api.Entry{
		{of(1, 8, 1, 9), of(2, 8, 1, 9), of(1, 9, 2, 5)},
		{of(1, 8, 1, 9), of(2, 8, 1, 9), of(1, 9, 2, 5), of(1, 8, 1, 10)},
		{of(1, 8, 1, 9), of(2, 8, 1, 9), of(1, 10, 2, 5), of(1, 8, 1, 10), of(2, 14, 5, 6)},
		{of(1, 8, 1, 9), of(2, 8, 1, 9), of(1, 9, 2, 5), of(1, 11, 1, 10), of(2, 15, 5, 6), of(1, 24, 1, 8), of(1, 13, 1, 1)},
		{of(1, 8, 1, 9), of(2, 8, 1, 9), of(1, 9, 2, 5), of(1, 10, 1, 10), of(2, 14, 5, 6), of(1, 24, 1, 8), of(1, 13, 1, 1), of(2, 1, 1, 1), of(2, 2, 1, 1), of(1, 4, 4, 4)},
		long,
	}
}

// TestP1702Laid has good tables that were laid by hand.
func TestP1702Laid(t *testing.T) {
	for gen := 1; gen <= 3; gen++ {
		for _, l := range append(lists(), mixed(30), entries.Crowd(41), entries.Alike(1, 3, 30)) {
			h := table.Empty(t, 200, gen)
			h.Root, h.List = good(gen, l).put(t, h.Desk), entries.Sorted(l...)
			h.Look("laid by hand")
			h.Adds("laid by hand", of(1, 77, 77, 77))
			h.Drops("laid by hand", l[:len(l)/2]...)
			h.Drops("laid by hand", h.List...)
		}
	}
}

// change is a way to make a table none.
type change struct {
	what string
	do   func(x *rough)
}

// rootChanges tells what makes the root of a table none.
func rootChanges(x *rough) []change {
	var l []change
	add := func(what string, do func(x *rough)) { l = append(l, change{what, do}) }
	for _, tag := range []int{0, 1, 2, 4, 5, 13, 200} {
		add("another tag", func(x *rough) { x.tag = tag })
	}
	most := 4 * len(x.buckets)
	for _, count := range []int{0, most + 1, most + 4, most + 256, 1501, 65535, 4*len(x.buckets) - 4} {
		add("a count of more buckets, or fewer", func(x *rough) { x.count = count })
	}
	add("a bucket too many, that is empty", func(x *rough) { x.buckets = append(x.buckets, heap{place: -1}) })
	add("a bucket too many", func(x *rough) { x.buckets = append(x.buckets, x.buckets[0]) })
	add("a bucket too many, ahead of them", func(x *rough) { x.buckets = append([]heap{{place: -1}}, x.buckets...) })
	add("a bucket too few", func(x *rough) { x.buckets = x.buckets[1:] })
	add("a bucket too few", func(x *rough) { x.buckets = x.buckets[:len(x.buckets)-1] })
	for _, n := range []int{1, 2, 3, 100, 300} {
		add("bytes behind the places", func(x *rough) { x.behind = strings.Repeat("\x00", n) })
		add("bytes behind the places", func(x *rough) { x.behind = strings.Repeat("x", n) })
	}
	add("a byte missing", func(x *rough) { x.cut = 1 })
	add("all bytes missing", func(x *rough) { x.cut = 2 + 2*len(x.buckets) })
	return l
}

func TestP1702BrokenRoot(t *testing.T) {
	for gen := 1; gen <= 3; gen++ {
		for _, l := range lists() {
			for _, c := range rootChanges(good(gen, l)) {
				h := table.Empty(t, api.Least, gen)
				x := good(gen, l)
				c.do(x)
				h.Nothing(c.what, x.put(t, h.Desk), api.ErrBroken)
			}
		}
	}
	h := table.Empty(t, 200, 1)
	for _, n := range []int{1501, 1504} { // with as many buckets as they would have
		h.Nothing("above 1,500", entries.PutChain(t, h.Desk, 1, 3, low(n)+strings.Repeat("\x00", 2*376)), api.ErrBroken)
	}
	h.Nothing("of none", entries.PutChain(t, h.Desk, 1, 3, "\x00\x00\x00\x00"), api.ErrBroken)
	h.Nothing("of none", entries.PutChain(t, h.Desk, 1, 3, "\x00\x00"), api.ErrBroken)
}

// firstChanges tells what makes the first bucket of a table none.
func firstChanges(x *rough) []change {
	var l []change
	add := func(what string, do func(data string) string) {
		l = append(l, change{what, func(x *rough) { x.buckets[0].data = do(x.buckets[0].data) }})
	}
	for _, tag := range []int{0, 1, 3, 4, 12, 14, 200} {
		l = append(l, change{"another tag", func(x *rough) { x.buckets[0].tag = tag }})
	}
	add("no entries, and somewhere", func(string) string { return "" })
	for _, n := range []int{1, 2, 33, 34, 35, 70} {
		add("zero bytes behind", func(d string) string { return d + strings.Repeat("\x00", n) })
		add("bytes behind", func(d string) string { return d + strings.Repeat("\x01", n) })
		add("bytes ahead", func(d string) string { return strings.Repeat("\x00", n) + d })
	}
	for _, n := range []int{1, 2, 3, 34} {
		add("bytes missing", func(d string) string { return d[:len(d)-n] })
		add("bytes missing", func(d string) string { return d[n:] })
	}
	add("the first one twice", func(d string) string { return d[:35] + d })
	add("the last one twice", func(d string) string { return d + d[len(d)-35:] })
	add("all of it twice", func(d string) string { return d + d })
	add("the first one at the end", func(d string) string { return d[35:] + d[:35] })
	add("the last one first", func(d string) string { return d[len(d)-35:] + d[:len(d)-35] })
	add("of place 0", func(d string) string { return d[:33] + low(0) + d[35:] })
	for _, at := range []int{2000, 2001, 32768, 65535} {
		add("of no place", func(d string) string { return d[:len(d)-2] + low(at) })
	}
	for _, kind := range []string{"\x00", "\x03", "\x81", "\xff"} {
		add("of no kind", func(d string) string { return kind + d[1:] })
		add("of no kind", func(d string) string { return d[:len(d)-35] + kind + d[len(d)-34:] })
	}
	for n := 21; n < 33; n++ {
		add("a byte behind the shorter print", func(d string) string { return d[:n] + "\x01" + d[n+1:] })
	}
	if other := slices.IndexFunc(x.buckets[1:], func(b heap) bool { return b.data != "" }); other >= 0 {
		alien := x.buckets[1+other].data
		add("one of another bucket", func(d string) string { return layAgain(d + alien[:35]) })
		add("one of another bucket instead", func(d string) string { return layAgain(alien[:35] + d[35:]) })
		add("those of another bucket", func(string) string { return alien })
	}
	return l
}

// layAgain lays the entries of bytes in their order.
func layAgain(data string) string { return lay(entries.Sorted(entries.ReadAll(data)...)...) }

func TestP1702BrokenBucket(t *testing.T) {
	for gen := 1; gen <= 3; gen++ {
		for _, l := range lists() {
			for _, c := range firstChanges(good(gen, l)) {
				h := table.Empty(t, api.Least, gen)
				x := good(gen, l)
				had := entries.ReadAll(x.buckets[0].data)
				c.do(x)
				h.Root = x.put(t, h.Desk)
				wantUnsound(t, c.what, h, had...)
				x.count++ // as many as it has now, perhaps
				h.Root = x.put(t, h.Desk)
				want(t, c.what, api.ErrBroken, bucket.Check(h.Desk, gen, h.Root))
			}
		}
	}
}

// wantUnsound asks that a table is none, and that its first bucket is none, to which l belong.
func wantUnsound(t *testing.T, what string, h *entries.Held, l ...api.Entry) {
	t.Helper()
	kept(t, what, h.Disk, h.Desk, func() {
		t.Helper()
		h.WantNoList(what, h.Root, api.ErrBroken)
		for n, x := range l {
			if got, e := bucket.Find(h.Desk, h.Root, x.Print); got != nil || e != api.ErrBroken {
				t.Errorf("%s: Find: %v, %d", what, got, e)
			}
			h.WantNoRoot(what+": Drop", bucket.Drop, h.Gen, h.Root, api.ErrBroken, x)
			h.WantNoRoot(what+": Drop", bucket.Drop, h.Gen, h.Root, api.ErrBroken, l[:n+1]...)
			h.WantNoRoot(what+": Add", bucket.Add, h.Gen, h.Root, api.ErrBroken, x)
			h.WantNoRoot(what+": Add", bucket.Add, h.Gen, h.Root, api.ErrBroken, entries.OneHash(1, entries.Hash(x.Print), 5)...)
		}
	})
}

// TestP1702BrokenBeside adds, and drops, an entry of a good bucket, behind which one that is none is split, or two are one again of which one is none.
func TestP1702BrokenBeside(t *testing.T) {
	odd := []api.Entry{of(1, 1, 1, 1), of(1, 3, 1, 1), of(2, 5, 1, 1), of(2, 7, 1, 1)}
	zero := []api.Entry{of(1, 4, 1, 1), of(1, 8, 1, 1), of(1, 12, 1, 1)}
	two := []api.Entry{of(1, 2, 1, 1), of(2, 2, 1, 1)}
	for gen := 1; gen <= 3; gen++ {
		h := table.Empty(t, api.Least, gen)
		for spoilt := range 3 {
			x := good(gen, slices.Concat(odd, zero, two))
			x.buckets[spoilt].data += "x"
			h.Root = x.put(t, h.Desk) // 9 entries, 3 buckets: of 8 there are two
			h.NoDrop("the last one goes into the first one", api.ErrBroken, odd[0])
			if spoilt != 1 {
				h.NoDrop("the last one goes into the first one", api.ErrBroken, two[0])
				h.NoDrop("the last one goes into the first one", api.ErrBroken, zero[0])
			}
		}
		for spoilt := range 2 {
			x := good(gen, slices.Concat(odd, zero, two[:1]))
			x.buckets[spoilt].data += "x"
			h.Root = x.put(t, h.Desk) // 8 entries: with one more the first one is split
			if spoilt == 0 {
				h.NoAdd("the first one is split", api.ErrBroken, of(1, 9, 1, 1))
			}
			h.NoAdd("the first one is split", api.ErrBroken, of(1, 9, 1, 1), two[1])
			h.NoAdd("the first one is split", api.ErrBroken, two[1], of(1, 9, 1, 1))
		}
	}
}

// TestP1702BrokenCount has just another number of entries than the root says.
func TestP1702BrokenCount(t *testing.T) {
	for gen := 1; gen <= 3; gen++ {
		for _, l := range append(lists(), mixed(30), mixed(29), mixed(31), mixed(32)) {
			for by := -3; by <= 3; by++ {
				n := len(l) + by
				if n < 1 || by == 0 || number(n) != number(len(l)) {
					continue
				}
				h := table.Empty(t, 200, gen)
				x := good(gen, l)
				x.count = n
				h.Root = x.put(t, h.Desk)
				kept(t, "another number", h.Disk, h.Desk, func() { h.WantNoList("another number", h.Root, api.ErrBroken) })
			}
			h := table.Empty(t, 200, gen)
			x := good(gen, l)
			for n, b := range x.buckets {
				if b.data != "" {
					x.buckets[n].place = -1
					h.WantNoList("a bucket that is nowhere", x.put(t, h.Desk), api.ErrBroken)
					x.buckets[n] = b
				}
			}
		}
	}
}

// TestP1702BrokenPlaces has buckets that are said to stand where there are none, or other ones.
func TestP1702BrokenPlaces(t *testing.T) {
	for gen := 1; gen <= 3; gen++ {
		for _, l := range lists() {
			h := table.Empty(t, api.Least, gen)
			junk := entries.PutChain(t, h.Desk, gen, 3, lay(l...))
			root := good(gen, l).put(t, h.Desk)
			places := places(t, h.Desk, root)
			free := 28
			for n, place := range places {
				for _, other := range slices.Concat([]int{1, junk, root, free, 29, 30, 1000, 32768, 65535}, places) {
					if other == place || other == 0 {
						continue
					}
					m := h.Desk.Mark()
					x := good(gen, l)
					x.buckets[n].place = other
					h.Root = x.put(t, h.Desk)
					wantMisled(t, h, other > 28)
					h.Desk.Back(m)
				}
			}
		}
	}
}

// wantMisled asks that a table names a place where there is no bucket of it, or that is none.
func wantMisled(t *testing.T, h *entries.Held, outside bool) {
	t.Helper()
	kept(t, "another place", h.Disk, h.Desk, func() {
		t.Helper()
		want(t, "another place: Check", api.ErrBroken, bucket.Check(h.Desk, h.Gen, h.Root))
		e := api.ErrBroken
		if outside {
			e = api.ErrRange // chain.Get's
		}
		_, all := bucket.All(h.Desk, h.Root)
		_, sectors := bucket.Sectors(h.Desk, h.Root)
		want(t, "another place: All", e, all)
		want(t, "another place: Sectors", e, sectors)
	})
}

// places tells the places that a root says.
func places(t *testing.T, k *desk.Desk, root int) []int {
	t.Helper()
	c, e := chain.Get(k, root)
	want(t, "chain.Get", api.OK, e)
	var l []int
	for n := 2; n < len(c.Data); n += 2 {
		l = append(l, int(c.Data[n])+256*int(c.Data[n+1]))
	}
	return l
}

// TestP1702OtherForm has one chain of another form: nothing but Check tells that.
func TestP1702OtherForm(t *testing.T) {
	for gen := 1; gen <= 3; gen++ {
		for _, l := range lists() {
			for n := -1; n < number(len(l)); n++ {
				h := table.Empty(t, api.Least, gen)
				x := good(gen, l)
				if n < 0 {
					x.gen = gen%3 + 1
				} else if x.buckets[n].data != "" {
					x.buckets[n].gen = gen%3 + 1
				} else {
					continue
				}
				root := x.put(t, h.Desk)
				for form := range 5 {
					want(t, "a chain of another form", api.ErrBroken, bucket.Check(h.Desk, form, root))
				}
				if got, e := bucket.All(h.Desk, root); !slices.Equal(got, entries.Sorted(l...)) || e != api.OK {
					t.Errorf("All: %d entries, %d", len(got), e)
				}
			}
		}
	}
}

// TestP1702SharedSector has two buckets that end in one sector, in which no byte tells them apart.
func TestP1702SharedSector(t *testing.T) {
	var one, two []api.Entry // seven each: their chains have nine bytes more than a sector, zero bytes and a place
	for n := range 7 {
		one, two = append(one, of(1, 4*n, 7, 9)), append(two, of(1, 4*n+1, 7, 9))
	}
	for gen := 1; gen <= 3; gen++ {
		h := table.Empty(t, api.Least, gen)
		h.Root, h.List = good(gen, slices.Concat(one, two)).put(t, h.Desk), entries.Sorted(slices.Concat(one, two)...)
		h.Look("each in its own")
		p := places(t, h.Desk, h.Root)
		first, _ := chain.Sectors(h.Desk, p[0])
		want(t, "Set", api.OK, h.Desk.Set(p[1], entries.Seal(t, gen, 13, 0, 1, first[1], lay(two...)[:part])))
		kept(t, "both in one", h.Disk, h.Desk, func() {
			want(t, "both in one: Check", api.ErrBroken, bucket.Check(h.Desk, gen, h.Root))
			if l, e := bucket.Sectors(h.Desk, h.Root); l != nil || e != api.ErrBroken {
				t.Errorf("Sectors: %v, %d", l, e)
			}
			h.WantNoRoot("both in one: Drop", bucket.Drop, gen, h.Root, api.ErrBroken, h.List...) // of the second one a sector is gone with the first one
		})
	}
}

// TestP1702NextPlace has chains that go on behind all home sectors.
func TestP1702NextPlace(t *testing.T) {
	for gen := 1; gen <= 3; gen++ {
		h := table.With(t, api.Least, gen, entries.OneHash(1, 4, 12)...)
		p := places(t, h.Desk, h.Root)
		m := h.Desk.Mark()
		for _, next := range []int{29, 1000, 65535} {
			data := lay(h.List...)[:part]
			want(t, "Set", api.OK, h.Desk.Set(p[slot(4, 3)], entries.Seal(t, gen, 13, 0, 1, next, data)))
			wantMisled(t, h, true)
			h.WantNoRoot("Drop", bucket.Drop, gen, h.Root, api.ErrRange, h.List[0])
			h.Desk.Back(m)
			want(t, "Set", api.OK, h.Desk.Set(h.Root, entries.Seal(t, gen, 3, 0, 1, next, low(500)+sample.Bytes(part-2))))
			wantMisled(t, h, true)
			h.Desk.Back(m)
		}
		h.Look("good again")
	}
}

// sound tells whether a table is sound, by laying again what it has.
func sound(k *desk.Desk, gen, root int) bool {
	c, e := chain.Get(k, root)
	if e != api.OK || c.Gen != gen || c.Tag != 3 || len(c.Data) < 4 {
		return false
	}
	var l []api.Entry
	heaps := make([]string, (len(c.Data)-2)/2)
	for n := range heaps {
		if at := int(c.Data[2+2*n]) + 256*int(c.Data[3+2*n]); at != 0 {
			b, e := chain.Get(k, at)
			if e != api.OK || b.Gen != gen || b.Tag != 13 || b.Data == "" {
				return false
			}
			heaps[n] = b.Data
			l = append(l, entries.ReadAll(b.Data)...)
		}
	}
	if !entries.Sound(entries.Sorted(l...)) || len(l) == 0 || c.Data[:2] != low(len(l)) || len(c.Data) != 2+2*number(len(l)) {
		return false
	}
	for n, p := range parts(l) {
		if lay(p...) != heaps[n] {
			return false
		}
	}
	return true
}

// TestP1702Judged changes each byte of each chain of a table: just those are sound that should be.
func TestP1702Judged(t *testing.T) {
	good, bad := 0, 0
	for gen, l := range lists() {
		gen = 1 + gen%3
		h := table.With(t, api.Least, gen, l...)
		m := h.Desk.Mark()
		for _, at := range append([]int{h.Root}, places(t, h.Desk, h.Root)...) {
			c, _ := chain.Get(h.Desk, at)
			sectors, _ := chain.Sectors(h.Desk, at)
			for n := range c.Data {
				for _, by := range []byte{1, 2, 3, 7, 16, 128, 255} {
					data := sample.Changed(c.Data, n, by)
					entries.LayAgain(t, h.Desk, sectors, c, data)
					e := api.OK
					if !sound(h.Desk, gen, h.Root) {
						e = api.ErrBroken
						bad++
					} else {
						good++
					}
					if got := bucket.Check(h.Desk, gen, h.Root); got != e {
						t.Fatalf("the chain at %d, byte %d changed by %d: %d, not %d", at, n, by, got, e)
					}
					h.Desk.Back(m)
				}
			}
		}
	}
	if good < 1000 || bad < 1000 {
		t.Errorf("%d sound, %d not", good, bad)
	}
}
