package chain_test

import (
	"math"
	"slices"
	"strings"
	"testing"
	"unsafe"

	"masonry/api"
	"masonry/chain"
	"masonry/crc"
	"masonry/desk"
	"masonry/desks"
	"masonry/disk"
	"masonry/sample"
	"masonry/witness"
)

const (
	fewest = api.Least - 111 // home sectors of a disk of the fewest sectors
	part   = 236             // bytes of a chain in a sector, written out: package chain is the one that is asked
	longs  = 9440            // bytes of the longest chain
	body   = 252             // bytes of a sector ahead of its sum
	ahead  = 10              // bytes of a sector ahead of those of the chain
	zero   = "\x00"
)

var (
	broken, kept        = witness.Broken, witness.Kept
	want, wantGet       = witness.Want, witness.WantGet
	wantUsed, wantDirty = witness.WantUsed, witness.WantDirty
	upTo, outside       = sample.UpTo, sample.Outside
	bytes, choices      = sample.Bytes, sample.Choices
	formatted, opened   = desks.Formatted, desks.Opened
	open                = desks.Open
)

// down tells the numbers from and on, back to the one to.
func down(from, to int) []int {
	l := upTo(to, from+1)
	slices.Reverse(l)
	return l
}

// link is a sector of a chain, to be laid by hand.
type link struct {
	kind, gen, tag, number, refs, next, size int
	data                                     string // what stands where the chain's bytes do, and behind them
}

// links tells the links of a chain whose sectors stand at places.
func links(c chain.Chain, places ...int) []link {
	l := make([]link, len(places))
	for n := range l {
		data := c.Data[min(len(c.Data), n*part):min(len(c.Data), n*part+part)]
		l[n] = link{kind: 2, gen: c.Gen, tag: c.Tag, number: n, size: len(data), data: data}
		if n > 0 {
			l[n-1].next = places[n]
		}
	}
	l[0].refs = c.Refs
	return l
}

// with tells a link that has just these bytes.
func (x link) with(data string) link {
	x.data, x.size = data, len(data)
	return x
}

// room tells all that stands behind what is ahead of the chain's bytes.
func (x link) room() string { return x.data + strings.Repeat(zero, body-ahead-len(x.data)) }

// sector tells a link's sector.
func (x link) sector() string {
	low := func(n int) string { return string([]byte{byte(n), byte(n >> 8)}) }
	first := string([]byte{byte(x.kind), byte(x.gen), byte(x.tag), byte(x.number)})
	b, e := crc.Seal(api.Sector, first+low(x.refs)+low(x.next)+low(x.size)+x.data)
	if e != api.OK {
		panic("no sector")
	}
	return b
}

// stand lets links stand at places of a Desk.
func stand(t *testing.T, k *desk.Desk, l []link, places ...int) {
	t.Helper()
	for n, x := range l {
		want(t, "desk.Set", api.OK, k.Set(places[n], x.sector()))
	}
}

// wantPut asks that Put takes the places, in the chain's order, and that the chain is there.
func wantPut(t *testing.T, what string, k *desk.Desk, gen, tag int, b string, places ...int) {
	t.Helper()
	if at, e := chain.Put(k, gen, tag, b); at != places[0] || e != api.OK {
		t.Errorf("%s: Put of %d bytes: %d, %d, not %d", what, len(b), at, e, places[0])
	}
	wantChain(t, what, k, chain.Chain{Gen: gen, Tag: tag, Refs: 1, Data: b}, places...)
}

// wantNoPut asks that Put answers the error want, and nothing.
func wantNoPut(t *testing.T, what string, k *desk.Desk, gen, tag int, b string, want api.Errno) {
	t.Helper()
	if at, e := chain.Put(k, gen, tag, b); at != 0 || e != want {
		t.Errorf("%s: Put of the form %d, the tag %d and %d bytes: %d, %d, not error %d", what, gen, tag, len(b), at, e, want)
	}
}

// wantChain asks for the chain that stands at places, in its order, and for each of its sectors.
func wantChain(t *testing.T, what string, k *desk.Desk, c chain.Chain, places ...int) {
	t.Helper()
	wantRead(t, what, k, c, places...)
	for n, x := range links(c, places...) {
		wantGet(t, what, k, places[n], x.sector())
	}
}

// wantRead asks that Get and Sectors tell the chain that stands at places.
func wantRead(t *testing.T, what string, k *desk.Desk, c chain.Chain, places ...int) {
	t.Helper()
	if got, e := chain.Get(k, places[0]); got != c || e != api.OK {
		t.Errorf("%s: Get of %d: %d, %d, %d, %d bytes %.8q, %d, not %d, %d, %d, %d bytes %.8q", what, places[0], got.Gen, got.Tag, got.Refs, len(got.Data), got.Data, e, c.Gen, c.Tag, c.Refs, len(c.Data), c.Data)
	}
	if got, e := chain.Sectors(k, places[0]); !slices.Equal(got, places) || e != api.OK {
		t.Errorf("%s: Sectors of %d: %v, %d, not %v", what, places[0], got, e, places)
	}
}

// wantRefs asks what Refs tells.
func wantRefs(t *testing.T, what string, k *desk.Desk, at, by, n int, want api.Errno) {
	t.Helper()
	if got, e := chain.Refs(k, at, by); got != n || e != want {
		t.Errorf("%s: Refs of %d by %d: %d, %d, not %d, %d", what, at, by, got, e, n, want)
	}
}

// wantNone asks that Get, Refs, Drop and Sectors each answer the error want, and nothing, and that nothing changes.
func wantNone(t *testing.T, what string, d *disk.Disk, k *desk.Desk, at int, wanted api.Errno) {
	t.Helper()
	kept(t, what, d, k, func() {
		t.Helper()
		wantNothing(t, what, k, at, wanted)
	})
}

// wantNothing asks that Get, Refs, Drop and Sectors each answer the error want, and nothing.
func wantNothing(t *testing.T, what string, k *desk.Desk, at int, wanted api.Errno) {
	t.Helper()
	if got, e := chain.Get(k, at); got != (chain.Chain{}) || e != wanted {
		t.Errorf("%s: Get of %d: %d, %d, %d, %d bytes, %d, not error %d", what, at, got.Gen, got.Tag, got.Refs, len(got.Data), e, wanted)
	}
	for _, by := range []int{0, 1, -1} {
		wantRefs(t, what, k, at, by, 0, wanted)
	}
	want(t, what+": Drop", wanted, chain.Drop(k, at))
	if got, e := chain.Sectors(k, at); len(got) != 0 || e != wanted {
		t.Errorf("%s: Sectors of %d: %v, %d, not error %d", what, at, got, e, wanted)
	}
}

// P1201: Need.

func TestP1201Need(t *testing.T) {
	if chain.Part != part {
		t.Errorf("Part: %d", chain.Part)
	}
	for _, c := range []struct{ n, need int }{
		{math.MinInt, 0}, {math.MinInt + 1, 0}, {-1 << 32, 0}, {-237, 0}, {-236, 0}, {-235, 0}, {-2, 0}, {-1, 0},
		{0, 1}, {1, 1}, {235, 1}, {236, 1}, {237, 2}, {471, 2}, {472, 2}, {473, 3}, {9204, 39}, {9205, 40}, {9439, 40}, {9440, 40}, {9441, 41},
		{1 << 32, 18199014}, {math.MaxInt - 235, 39082084901927016}, {math.MaxInt - 200, 39082084901927016}, {math.MaxInt - 1, 39082084901927017}, {math.MaxInt, 39082084901927017},
	} {
		if got := chain.Need(c.n); got != c.need {
			t.Errorf("Need(%d): %d, not %d", c.n, got, c.need)
		}
	}
}

// TestP1201NeedRises counts along: behind each 236 bytes there is one sector more.
func TestP1201NeedRises(t *testing.T) {
	n := 1
	for need := 1; need <= 300; need++ {
		for range part {
			if got := chain.Need(n); got != need {
				t.Fatalf("Need(%d): %d, not %d", n, got, need)
			}
			n++
		}
	}
}

// P1201: Put.

// lengths tells how many bytes chains have that are put: all that need a sector or two, and those near where one more is needed.
func lengths() []int {
	l := upTo(0, 480)
	for need := 2; need <= 40; need++ {
		l = append(l, need*part-1, need*part)
		if need < 40 {
			l = append(l, need*part+1)
		}
	}
	return l
}

// sectorsOf tells how many sectors so many bytes need.
func sectorsOf(n int) int { return max(1, (n+235)/part) }

func TestP1201Put(t *testing.T) {
	d, k := formatted(t, 160)
	first := k.Mark()
	for _, n := range lengths() {
		need := sectorsOf(n)
		witness.Untouched(t, "Put", d, func() {
			wantPut(t, "Put", k, 1+n%3, n%201, bytes(n), down(1+need, 2)...)
		})
		wantUsed(t, "Put", k, upTo(0, 2+need)...)
		wantDirty(t, "Put", k, upTo(1, 2+need)...)
		for _, at := range []int{0, 2 + need, 48} {
			wantGet(t, "Put", k, at, sample.Full(0))
		}
		k.Back(first)
	}
}

// TestP1201PutSectors holds what is put against written-out bytes.
func TestP1201PutSectors(t *testing.T) {
	_, k := formatted(t, api.Least)
	want(t, "Keep", api.OK, k.Keep(upTo(2, 6)...))
	text := strings.Repeat("a", 236) + strings.Repeat("b", 236) + "cde"
	wantPut(t, "three sectors", k, 3, 200, text, 8, 7, 6)
	wantPut(t, "none", k, 1, 0, "", 9)
	for at, b := range map[int]string{
		8: "\x02\x03\xc8\x00\x01\x00\x07\x00\xec\x00" + text[:236],
		7: "\x02\x03\xc8\x01\x00\x00\x06\x00\xec\x00" + text[236:472],
		6: "\x02\x03\xc8\x02\x00\x00\x00\x00\x03\x00cde",
		9: "\x02\x01\x00\x00\x01\x00\x00\x00\x00\x00",
	} {
		sealed, _ := crc.Seal(256, b)
		wantGet(t, "written out", k, at, sealed)
	}
}

// TestP1201PutFarPlaces has places that need both bytes of a Half.
func TestP1201PutFarPlaces(t *testing.T) {
	d, k := formatted(t, api.Sectors)
	want(t, "Keep", api.OK, k.Keep(slices.Concat(upTo(2, 255), upTo(257, 1886))...))
	wantPut(t, "far", k, 2, 3, bytes(1000), 1888, 1887, 1886, 256, 255)
	wantRefs(t, "far", k, 1888, 300, 301, api.OK)
	want(t, "Sync", api.OK, k.Sync())
	wantChain(t, "far", opened(t, d), chain.Chain{Gen: 2, Tag: 3, Refs: 301, Data: bytes(1000)}, 1888, 1887, 1886, 256, 255)
	want(t, "Drop", api.OK, chain.Drop(k, 1888))
	wantUsed(t, "Drop", k, slices.Concat(upTo(0, 255), upTo(257, 1886))...)
}

func TestP1201PutFormsAndTags(t *testing.T) {
	d, k := formatted(t, api.Least)
	first := k.Mark()
	for gen := 1; gen <= 3; gen++ {
		for tag := range 201 {
			wantPut(t, "one sector", k, gen, tag, "x", 2)
			wantPut(t, "three sectors", k, gen, tag, bytes(500+tag), 5, 4, 3)
			k.Back(first)
		}
	}
	kept(t, "no form, no tag", d, k, func() {
		for _, b := range []string{"", "x", bytes(600)} {
			for _, gen := range []int{0, -1, -2, -3, 4, 5, 255, 256, 257, 1<<32 + 1, math.MaxInt, math.MinInt, math.MinInt + 1} {
				for _, tag := range []int{0, 7, 200, 201, -1} {
					wantNoPut(t, "no form", k, gen, tag, b, api.ErrArg)
				}
			}
			for _, tag := range []int{-1, -2, -200, 201, 202, 255, 256, 257, 1 << 32, math.MaxInt, math.MinInt, math.MinInt + 7} {
				for gen := 1; gen <= 3; gen++ {
					wantNoPut(t, "no tag", k, gen, tag, b, api.ErrArg)
				}
			}
		}
	})
}

func TestP1201PutLong(t *testing.T) {
	d, k := formatted(t, 300)
	kept(t, "too long", d, k, func() {
		for _, n := range []int{longs + 1, longs + 2, longs + part, 10000, 65535, 65536, 65537, 65536 + 5, 1 << 20} {
			for gen := 1; gen <= 3; gen++ {
				wantNoPut(t, "too long", k, gen, 67*gen-1, bytes(n), api.ErrLong)
			}
			for _, c := range [][2]int{{0, 7}, {4, 7}, {-1, 7}, {1, -1}, {3, 201}, {0, 201}, {4, -1}} {
				wantNoPut(t, "ErrArg ahead of ErrLong", k, c[0], c[1], bytes(n), api.ErrArg)
			}
		}
	})
	wantPut(t, "the longest", k, 1, 1, bytes(longs), down(41, 2)...)
}

func TestP1201PutAnyBytes(t *testing.T) {
	_, k := formatted(t, 200)
	first := k.Mark()
	var every []byte
	for b := range 256 {
		every = append(every, byte(b))
	}
	l := []string{string(every), strings.Repeat(string(every), 5), strings.Repeat("\u00e4", 300), strings.Repeat("\u20ac", 200), "\xff\xfe" + strings.Repeat("\x80", 500)}
	for b := range 256 {
		one := string([]byte{byte(b)})
		l = append(l, one, strings.Repeat(one, 236), strings.Repeat(one, 473))
	}
	for _, n := range []int{1, 2, 235, 236, 237, 472, 473, longs - 1} {
		l = append(l, strings.Repeat(zero, n)+"x", "x"+strings.Repeat(zero, n), strings.Repeat(zero, n))
	}
	for _, b := range l {
		wantPut(t, "any bytes", k, 2, 9, b, down(1+sectorsOf(len(b)), 2)...)
		k.Back(first)
	}
}

// TestP1201PutScattered has free sectors here and there: the last one of the chain has the least of them.
func TestP1201PutScattered(t *testing.T) {
	_, k := formatted(t, api.Least)
	want(t, "Keep", api.OK, k.Keep(2, 4, 5, 6, 8, 9, 10, 13))
	wantPut(t, "scattered", k, 1, 5, bytes(4*part), 12, 11, 7, 3)
	wantPut(t, "behind", k, 1, 5, bytes(part), 14)
	want(t, "Drop", api.OK, k.Drop(5, 10))
	wantPut(t, "behind a Drop", k, 2, 6, bytes(3*part-1), 15, 10, 5)
	wantUsed(t, "scattered", k, upTo(0, 16)...)
	wantDirty(t, "scattered", k, 1, 3, 5, 7, 10, 11, 12, 14, 15)
	wantRead(t, "scattered", k, chain.Chain{Gen: 1, Tag: 5, Refs: 1, Data: bytes(4 * part)}, 12, 11, 7, 3)
}

// TestP1201PutTillFull has just as many sectors left as are needed, and one less.
func TestP1201PutTillFull(t *testing.T) {
	for _, need := range []int{1, 2, 3, 7, 39, 40} {
		d, k := formatted(t, 200)
		var free []int
		for n := range need {
			free = append(free, 3+2*n)
		}
		use := slices.DeleteFunc(upTo(2, 89), func(at int) bool { return slices.Contains(free, at) })
		want(t, "Keep", api.OK, k.Keep(use...))
		want(t, "Sync", api.OK, k.Sync())
		want(t, "Set", api.OK, k.Set(2, sample.Full('x')))
		m := k.Mark()
		places := slices.Clone(free)
		slices.Reverse(places)
		for _, n := range []int{need * part, need*part - 1, (need-1)*part + 1} {
			wantPut(t, "just enough", k, 2, 8, bytes(n), places...)
			wantUsed(t, "just enough", k, upTo(0, 89)...)
			kept(t, "none left", d, k, func() {
				wantNoPut(t, "none left", k, 1, 1, "", api.ErrFull)
				wantNoPut(t, "none left", k, 1, 1, bytes(longs), api.ErrFull)
			})
			k.Back(m)
		}
		want(t, "one less", api.OK, k.Keep(append(use, free[need/2])...))
		if need > 1 {
			want(t, "Set", api.OK, k.Set(free[need/2], sample.Full('y')))
		}
		kept(t, "one less", d, k, func() {
			wantNoPut(t, "one less", k, 1, 1, bytes(need*part), api.ErrFull)
			wantNoPut(t, "one less", k, 3, 200, bytes((need-1)*part+1), api.ErrFull)
			wantNoPut(t, "ErrArg ahead of ErrFull", k, 0, 1, bytes(need*part), api.ErrArg)
			wantNoPut(t, "ErrArg ahead of ErrFull", k, 1, 201, bytes(need*part), api.ErrArg)
			wantNoPut(t, "ErrLong ahead of ErrFull", k, 1, 1, bytes(longs+1), api.ErrLong)
		})
	}
}

// TestP1201PutFullKeeps has much on the desk when a Put is refused: all of it is as it was, and Marks of before it are good.
func TestP1201PutFullKeeps(t *testing.T) {
	d, k := formatted(t, api.Least)
	wantPut(t, "committed", k, 1, 1, bytes(5*part), 6, 5, 4, 3, 2)
	wantPut(t, "committed", k, 1, 2, bytes(3*part), 9, 8, 7)
	want(t, "Sync", api.OK, k.Sync())
	first := k.Mark()
	wantPut(t, "on the desk", k, 2, 3, bytes(4*part), 13, 12, 11, 10)
	want(t, "Drop", api.OK, chain.Drop(k, 9))
	wantRefs(t, "on the desk", k, 6, 4, 5, api.OK)
	want(t, "Set", api.OK, k.Set(0, sample.Full('z')))
	for range 3 {
		kept(t, "refused", d, k, func() { wantNoPut(t, "refused", k, 3, 4, bytes(19*part), api.ErrFull) })
	}
	wantDirty(t, "refused", k, 0, 1, 6, 10, 11, 12, 13)
	wantPut(t, "what is left", k, 3, 4, bytes(18*part), append(down(28, 14), 9, 8, 7)...)
	k.Back(first)
	wantDirty(t, "Back", k)
	wantChain(t, "Back", k, chain.Chain{Gen: 1, Tag: 2, Refs: 1, Data: bytes(3 * part)}, 9, 8, 7)
	wantPut(t, "Back", k, 2, 3, bytes(2*part), 11, 10)
}

func TestP1201PutBehindDrop(t *testing.T) {
	_, k := formatted(t, api.Least)
	wantPut(t, "the first", k, 1, 1, bytes(500), 4, 3, 2)
	wantPut(t, "the second", k, 1, 2, bytes(501), 7, 6, 5)
	want(t, "Drop", api.OK, chain.Drop(k, 4))
	wantPut(t, "in its place", k, 2, 3, bytes(700), 4, 3, 2)
	want(t, "Drop", api.OK, chain.Drop(k, 4))
	wantPut(t, "in its place, and more", k, 3, 4, bytes(1100), 9, 8, 4, 3, 2)
	want(t, "Drop", api.OK, chain.Drop(k, 7))
	wantPut(t, "shorter", k, 3, 5, "", 5)
	wantChain(t, "behind", k, chain.Chain{Gen: 3, Tag: 4, Refs: 1, Data: bytes(1100)}, 9, 8, 4, 3, 2)
	wantUsed(t, "behind", k, 0, 1, 2, 3, 4, 5, 8, 9)
	want(t, "Sync", api.OK, k.Sync())
	want(t, "Drop", api.OK, chain.Drop(k, 9))
	wantPut(t, "where something was committed", k, 1, 6, bytes(3*part), 4, 3, 2)
	wantDirty(t, "where something was committed", k, 1, 2, 3, 4)
}

// TestP1201PutTheSame puts the same bytes twice: they are kept twice.
func TestP1201PutTheSame(t *testing.T) {
	_, k := formatted(t, api.Least)
	c := chain.Chain{Gen: 1, Tag: 1, Refs: 1, Data: bytes(300)}
	wantPut(t, "once", k, 1, 1, c.Data, 3, 2)
	wantPut(t, "twice", k, 1, 1, c.Data, 5, 4)
	wantRefs(t, "twice", k, 3, 6, 7, api.OK)
	wantChain(t, "twice", k, c, 5, 4)
	want(t, "Drop", api.OK, chain.Drop(k, 3))
	wantChain(t, "Drop of the other one", k, c, 5, 4)
}

// P1201: Get, and with it what Refs, Drop and Sectors tell of what is no chain.

func TestP1201NoPlace(t *testing.T) {
	for _, n := range []int{api.Least, 222, api.Sectors} {
		d, k := formatted(t, n)
		wantPut(t, "a chain", k, 1, 1, bytes(500), 4, 3, 2)
		for range 2 {
			for _, at := range outside(n - 111) {
				wantNone(t, "no home sector", d, k, at, api.ErrRange)
			}
			for _, at := range []int{0, 1, 5, n - 112} {
				wantNone(t, "no chain", d, k, at, api.ErrBroken)
			}
			wantNone(t, "the last one of a chain", d, k, 2, api.ErrBroken)
			wantNone(t, "one within a chain", d, k, 3, api.ErrBroken)
			want(t, "Sync", api.OK, k.Sync())
		}
		wantChain(t, "a chain", k, chain.Chain{Gen: 1, Tag: 1, Refs: 1, Data: bytes(500)}, 4, 3, 2)
	}
}

// TestP1201NoSector has sectors that are none of a chain, as the first one, within, and as the last one.
func TestP1201NoSector(t *testing.T) {
	d, k := formatted(t, api.Least)
	places := []int{9, 4, 12, 7}
	want(t, "Keep", api.OK, k.Keep(places...))
	l := links(chain.Chain{Gen: 2, Tag: 30, Refs: 5, Data: bytes(900)}, places...)
	stand(t, k, l, places...)
	good := k.Mark()
	room, _ := k.Get(1)
	plain, _ := crc.Seal(api.Sector)
	for n, x := range l {
		s := x.sector()
		no := []string{sample.Full(0), sample.Full('j'), sample.Full(255), bytes(api.Sector), room, plain, s[1:] + s[:1]}
		for at := range api.Sector {
			for _, by := range []byte{1, 128, 255} {
				no = append(no, sample.Changed(s, at, by))
			}
		}
		for _, b := range no {
			want(t, "Set", api.OK, k.Set(places[n], b))
			wantNone(t, "no sector of a chain", d, k, 9, api.ErrBroken)
		}
		k.Back(good)
	}
	wantChain(t, "as it was", k, chain.Chain{Gen: 2, Tag: 30, Refs: 5, Data: bytes(900)}, places...)
}

// breaks tells links by each of which the chain l, at places, is no chain, if it stands in the place of the one n.
func breaks(l []link, places []int, n int) []link {
	x := l[n]
	last, alone := n == len(l)-1, len(l) == 1
	var out []link
	turn := func(field func(x *link) *int, values ...int) {
		for _, v := range values {
			y := x
			if f := field(&y); v >= 0 && *f != v {
				*f = v
				out = append(out, y)
			}
		}
	}
	turn(func(x *link) *int { return &x.kind }, 0, 1, 3, 4, 5, 6, 7, 66, 130, 255)
	turn(func(x *link) *int { return &x.gen }, 0, 4, 5, 129, 130, 131, 255)
	turn(func(x *link) *int { return &x.tag }, 201, 202, 255)
	turn(func(x *link) *int { return &x.number }, 0, n-1, n+1, n+2, len(l), 39, 40, 41, n^1, n^128, 255)
	turn(func(x *link) *int { return &x.size }, part+1, part+6, part+7, 256, 256+x.size, 65535)
	for m := part + 1; m <= body-ahead; m++ {
		out = append(out, x.with(bytes(m)), x.with(bytes(m)[:m-1]+zero))
	}
	for _, at := range []int{x.size, x.size + 1, part, part + 1, body - ahead - 2, body - ahead - 1} {
		if at >= x.size && at < body-ahead {
			y := x
			y.data = x.room()[:at] + "x" // a byte behind its end
			out = append(out, y)
		}
	}
	if !alone {
		turn(func(x *link) *int { return &x.gen }, 1, 2, 3)
		turn(func(x *link) *int { return &x.tag }, 0, x.tag-1, x.tag+1, 200)
	}
	if n > 0 {
		turn(func(x *link) *int { return &x.refs }, 1, 2, 128, 256, 60000, 65535)
	}
	if n > 0 && last {
		out = append(out, x.with(""))
	}
	if !last {
		out = append(out, x.with(""), x.with(x.data[:1]), x.with(x.data[:part-1]))
		turn(func(x *link) *int { return &x.size }, 0, 1, part-1)
		turn(func(x *link) *int { return &x.next }, 1, 26)
	}
	for m, at := range places {
		y := x.with(bytes(part))
		y.next = at
		if m != n+1 {
			out = append(out, y) // one comes twice, or the numbers do not follow
		}
	}
	y := x.with(bytes(part))
	y.next = 1 // where the Room stands
	z := y
	z.next = 26 // where nothing stands
	return append(out, y, z)
}

func TestP1201GetBroken(t *testing.T) {
	scattered := []int{31, 44, 7, 12, 8, 9, 41, 3, 30, 20, 45, 2, 22, 46, 5, 6, 10, 35, 36, 34, 40, 21, 11, 28, 27, 33, 47, 48, 4, 13, 14, 16, 15, 25, 24, 38, 37, 39, 43, 42}
	for _, n := range []int{1, 2, 3, 40} {
		d, k := formatted(t, 160)
		places := scattered[:n]
		want(t, "Keep", api.OK, k.Keep(places...))
		for _, m := range []int{n*part - 100, n * part} {
			c := chain.Chain{Gen: 2, Tag: 77, Refs: 9, Data: bytes(m)}
			l := links(c, places...)
			stand(t, k, l, places...)
			good := k.Mark()
			for _, at := range slices.Compact([]int{0, min(1, n-1), n / 2, max(0, n-2), n - 1}) {
				for _, x := range breaks(l, places, at) {
					want(t, "Set", api.OK, k.Set(places[at], x.sector()))
					wantNone(t, "broken", d, k, places[0], api.ErrBroken)
					if t.Failed() {
						t.Fatalf("of %d sectors, the one %d: %d, %d, %d, %d, %d, %d, %d, %q", n, at, x.kind, x.gen, x.tag, x.number, x.refs, x.next, x.size, x.room())
					}
				}
				k.Back(good)
			}
			wantChain(t, "as it was", k, c, places...)
		}
	}
}

// TestP1201GetBrokenAndCommitted has chains that are none on the disk, too.
func TestP1201GetBrokenAndCommitted(t *testing.T) {
	d, k := formatted(t, api.Least)
	places := []int{5, 9, 3}
	want(t, "Keep", api.OK, k.Keep(places...))
	l := links(chain.Chain{Gen: 3, Tag: 5, Refs: 2, Data: bytes(600)}, places...)
	for n := range l {
		for _, x := range breaks(l, places, n)[:40] {
			stand(t, k, l, places...)
			want(t, "Set", api.OK, k.Set(places[n], x.sector()))
			want(t, "Sync", api.OK, k.Sync())
			wantNone(t, "broken", d, opened(t, d), 5, api.ErrBroken)
		}
	}
}

// TestP1201GetNoNextPlace has a full sector whose next one is behind all home sectors.
func TestP1201GetNoNextPlace(t *testing.T) {
	for _, n := range []int{api.Least, 300, api.Sectors} {
		d, k := formatted(t, n)
		places := []int{5, 9, 3, 2}
		want(t, "Keep", api.OK, k.Keep(places...))
		l := links(chain.Chain{Gen: 3, Tag: 5, Refs: 2, Data: bytes(4 * part)}, places...)
		stand(t, k, l, places...)
		good := k.Mark()
		for m := range l {
			for _, next := range []int{n - 111, n - 110, n, 1900, 2000, 1 << 15, 65535} {
				x := l[m]
				x.next = next
				want(t, "Set", api.OK, k.Set(places[m], x.sector()))
				wantNone(t, "no next place", d, k, 5, api.ErrRange)
			}
			k.Back(good)
		}
	}
}

// TestP1201GetForty has as many sectors as a chain may have, and more.
func TestP1201GetForty(t *testing.T) {
	for _, n := range []int{39, 40, 41, 42, 60, 200, 256, 257, 300} {
		d, k := formatted(t, 500)
		places := upTo(2, 2+n)
		want(t, "Keep", api.OK, k.Keep(places...))
		for _, m := range []int{n * part, n*part - 235} {
			c := chain.Chain{Gen: 1, Tag: 12, Refs: 3, Data: bytes(m)}
			stand(t, k, links(c, places...), places...)
			if n <= 40 {
				wantChain(t, "up to forty", k, c, places...)
			} else {
				wantNone(t, "more than forty", d, k, 2, api.ErrBroken)
			}
		}
	}
}

// TestP1201GetRing has chains that come back: to the first one, to one between, to the last one.
func TestP1201GetRing(t *testing.T) {
	for _, n := range []int{1, 2, 3, 5, 10, 20, 40} {
		d, k := formatted(t, 160)
		places := down(1+n, 2)
		want(t, "Keep", api.OK, k.Keep(places...))
		l := links(chain.Chain{Gen: 1, Tag: 12, Refs: 3, Data: bytes(n * part)}, places...)
		for _, at := range places {
			l[n-1].next = at
			stand(t, k, l, places...)
			wantNone(t, "a ring", d, k, 1+n, api.ErrBroken)
		}
		if n > 1 { // so that it would go on for ever, whatever the numbers are
			l[n-1].next = 2
			l[n-1].number = n
			stand(t, k, l, places...)
			wantNone(t, "the last one, over and over", d, k, 1+n, api.ErrBroken)
		}
	}
}

// TestP1201GetLaid has good chains that were laid by hand, of each form and some tags, with Refs of 0 and on.
func TestP1201GetLaid(t *testing.T) {
	_, k := formatted(t, 300)
	want(t, "Keep", api.OK, k.Keep(upTo(2, 189)...))
	for n, c := range []chain.Chain{
		{Gen: 1}, {Gen: 3, Tag: 200, Refs: 60000, Data: "x"}, {Gen: 2, Tag: 1, Refs: 59999, Data: bytes(235)},
		{Gen: 1, Tag: 100, Refs: 256, Data: bytes(236)}, {Gen: 2, Tag: 199, Refs: 255, Data: bytes(237)},
		{Gen: 3, Tag: 128, Refs: 0, Data: bytes(472)}, {Gen: 3, Tag: 127, Refs: 2, Data: bytes(473)}, {Gen: 1, Tag: 7, Refs: 1, Data: strings.Repeat(zero, longs)},
	} {
		need := sectorsOf(len(c.Data))
		for _, places := range [][]int{upTo(2, 2+need), down(188, 189-need), append([]int{100}, upTo(50, 49+need)...)} {
			stand(t, k, links(c, places...), places...)
			wantChain(t, "laid", k, c, places...)
			changed := c
			if by := n - 3; c.Refs+by >= 0 && c.Refs+by <= 60000 {
				changed.Refs += by
				wantRefs(t, "laid", k, places[0], by, changed.Refs, api.OK)
			}
			wantChain(t, "laid, and used", k, changed, places...)
		}
	}
}

// P1203: Refs.

// wantBeyond asks that Refs of a chain that is used n times tells ErrRange below 0 and above 60,000, and changes nothing.
func wantBeyond(t *testing.T, d *disk.Disk, k *desk.Desk, at, n int) {
	t.Helper()
	kept(t, "beyond", d, k, func() {
		for _, by := range sample.Beyond(n) {
			wantRefs(t, "beyond", k, at, by, 0, api.ErrRange)
		}
	})
}

func TestP1203Refs(t *testing.T) {
	for _, n := range []int{0, 1, 235, 236, 237, 700, longs} {
		d, k := formatted(t, 200)
		need := sectorsOf(n)
		places := down(1+need, 2)
		wantPut(t, "Put", k, 2, 44, bytes(n), places...)
		want(t, "Sync", api.OK, k.Sync())
		c := chain.Chain{Gen: 2, Tag: 44, Refs: 1, Data: bytes(n)}
		at := places[0]
		wantBeyond(t, d, k, at, 1)
		for _, by := range sample.Uses() {
			c.Refs += by
			wantRefs(t, "Refs", k, at, by, c.Refs, api.OK)
			wantChain(t, "Refs", k, c, places...)
			if by != 0 {
				wantDirty(t, "Refs", k, at) // the others are as they were
			}
			wantBeyond(t, d, k, at, c.Refs)
		}
		if c.Refs != 60000 {
			t.Errorf("%d at last", c.Refs)
		}
		want(t, "Sync", api.OK, k.Sync())
		wantBeyond(t, d, k, at, 60000)
		wantChain(t, "opened", opened(t, d), c, places...)
	}
}

// TestP1203RefsOneByOne goes up to 60,000 and back to 0 in steps of one near the ends, and of a hundred.
func TestP1203RefsOneByOne(t *testing.T) {
	_, k := formatted(t, api.Least)
	wantPut(t, "Put", k, 3, 1, bytes(300), 3, 2)
	n := 1
	for _, by := range []int{1, 100, 1, -1, -100, -1} {
		for m := 0; m < 600 && n+by >= 0 && n+by <= 60000; m++ {
			n += by
			wantRefs(t, "one by one", k, 3, by, n, api.OK)
		}
	}
	for ; n > 0; n-- {
		wantRefs(t, "down", k, 3, -1, n-1, api.OK)
	}
	wantRefs(t, "below 0", k, 3, -1, 0, api.ErrRange)
	wantRefs(t, "0", k, 3, 0, 0, api.OK)
	wantRefs(t, "all at once", k, 3, 60000, 60000, api.OK)
	wantRefs(t, "one more", k, 3, 1, 0, api.ErrRange)
	wantRefs(t, "as it was", k, 3, 0, 60000, api.OK)
	wantChain(t, "as it was", k, chain.Chain{Gen: 3, Tag: 1, Refs: 60000, Data: bytes(300)}, 3, 2)
}

func TestP1203RefsBack(t *testing.T) {
	_, k := formatted(t, api.Least)
	wantPut(t, "Put", k, 3, 1, bytes(300), 3, 2)
	m := k.Mark()
	wantRefs(t, "Refs", k, 3, 7, 8, api.OK)
	k.Back(m)
	wantRefs(t, "Back", k, 3, 1, 2, api.OK)
	want(t, "Sync", api.OK, k.Sync())
	wantRefs(t, "Refs", k, 3, -2, 0, api.OK)
	wantDirty(t, "Refs", k, 3)
	wantUsed(t, "used by none", k, 0, 1, 2, 3)
}

// P1203: Drop.

func TestP1203Drop(t *testing.T) {
	for _, n := range []int{0, 1, 236, 237, 700, longs - 236, longs} {
		d, k := formatted(t, 200)
		need := sectorsOf(n)
		other := chain.Chain{Gen: 1, Tag: 1, Refs: 1, Data: bytes(400)}
		wantPut(t, "another one", k, 1, 1, other.Data, 3, 2)
		want(t, "Sync", api.OK, k.Sync())
		empty := k.Mark()
		for _, refs := range []int{1, 0, 2, 60000} {
			wantPut(t, "Put", k, 3, 50, bytes(n), down(3+need, 4)...)
			wantPut(t, "one behind it", k, 1, 1, other.Data, 5+need, 4+need)
			wantRefs(t, "Refs", k, 3+need, refs-1, refs, api.OK)
			witness.Untouched(t, "Drop", d, func() { want(t, "Drop", api.OK, chain.Drop(k, 3+need)) })
			wantUsed(t, "Drop", k, 0, 1, 2, 3, 4+need, 5+need)
			wantDirty(t, "Drop", k, 1, 4+need, 5+need)
			wantNone(t, "twice", d, k, 3+need, api.ErrBroken)
			wantChain(t, "another one", k, other, 3, 2)
			wantChain(t, "one behind it", k, other, 5+need, 4+need)
			k.Back(empty)
		}
	}
}

// TestP1203DropCommitted drops a chain that was committed: its sectors may be taken, and it is gone behind a Sync.
func TestP1203DropCommitted(t *testing.T) {
	for _, n := range []int{0, 236, 237, 700, longs} {
		d, k := formatted(t, 200)
		need := sectorsOf(n)
		wantPut(t, "Put", k, 2, 50, bytes(n), down(1+need, 2)...)
		want(t, "Sync", api.OK, k.Sync())
		want(t, "Drop", api.OK, chain.Drop(k, 1+need))
		wantUsed(t, "Drop", k, 0, 1)
		wantDirty(t, "Drop", k, 1)
		kept(t, "twice", d, k, func() { want(t, "twice: not in use", api.ErrRange, chain.Drop(k, 1+need)) })
		wantChain(t, "not committed", opened(t, d), chain.Chain{Gen: 2, Tag: 50, Refs: 1, Data: bytes(n)}, down(1+need, 2)...)
		want(t, "Sync", api.OK, k.Sync())
		wantUsed(t, "committed", opened(t, d), 0, 1)
		kept(t, "twice", d, k, func() { want(t, "twice: not in use", api.ErrRange, chain.Drop(k, 1+need)) })
		wantPut(t, "in its place", k, 1, 1, bytes(need*part), down(1+need, 2)...)
		want(t, "Drop", api.OK, chain.Drop(k, 1+need))
		wantUsed(t, "Drop", k, 0, 1)
	}
}

// TestP1203NotInUse has chains of which a sector is not in use any more: desk.Drop and desk.Set tell so.
func TestP1203NotInUse(t *testing.T) {
	d, k := formatted(t, api.Least)
	wantPut(t, "Put", k, 2, 50, bytes(700), 4, 3, 2)
	want(t, "Sync", api.OK, k.Sync())
	all := k.Mark()
	c := chain.Chain{Gen: 2, Tag: 50, Refs: 1, Data: bytes(700)}
	for at := 2; at <= 4; at++ {
		want(t, "desk.Drop", api.OK, k.Drop(at))
		kept(t, "one is not in use", d, k, func() {
			want(t, "one is not in use", api.ErrRange, chain.Drop(k, 4))
			wantRead(t, "one is not in use", k, c, 4, 3, 2)
		})
		if at == 4 {
			kept(t, "the first is not in use", d, k, func() { wantRefs(t, "the first is not in use", k, 4, 1, 0, api.ErrRange) })
		}
		k.Back(all)
	}
	want(t, "Drop", api.OK, chain.Drop(k, 4))
}

// P1203: Sectors.

func TestP1203Sectors(t *testing.T) {
	d, k := formatted(t, 200)
	for _, n := range []int{0, 236, 237, 473, 2000, longs} {
		need := sectorsOf(n)
		wantPut(t, "Put", k, 1, 1, bytes(n), down(1+need, 2)...)
		kept(t, "Sectors", d, k, func() {
			for range 2 {
				got, e := chain.Sectors(k, 1+need)
				if !slices.Equal(got, down(1+need, 2)) || e != api.OK {
					t.Errorf("Sectors: %v, %d", got, e)
				}
				clear(got[:cap(got)])
			}
		})
		want(t, "Drop", api.OK, chain.Drop(k, 1+need))
	}
}

// P1201, P1203: reading changes nothing; what is handed in, and what is answered.

func TestP1201ReadingKeeps(t *testing.T) {
	d, k := formatted(t, 200)
	wantPut(t, "Put", k, 1, 1, bytes(5000), down(23, 2)...)
	want(t, "Sync", api.OK, k.Sync())
	wantPut(t, "Put", k, 3, 2, bytes(900), 27, 26, 25, 24)
	kept(t, "Get, Sectors", d, k, func() {
		wantChain(t, "committed", k, chain.Chain{Gen: 1, Tag: 1, Refs: 1, Data: bytes(5000)}, down(23, 2)...)
		wantChain(t, "on the desk", k, chain.Chain{Gen: 3, Tag: 2, Refs: 1, Data: bytes(900)}, 27, 26, 25, 24)
		chain.Need(5)
	})
}

func TestP1201WhatIsHandedIn(t *testing.T) {
	_, k := formatted(t, 200)
	first := k.Mark()
	for _, n := range []int{1, 236, 237, 3000, longs} {
		b := []byte(bytes(n))
		need := sectorsOf(n)
		if _, e := chain.Put(k, 1, 1, unsafe.String(&b[0], n)); e != api.OK {
			t.Errorf("Put: %d", e)
		}
		if string(b) != bytes(n) {
			t.Error("what was handed in was changed")
		}
		clear(b)
		wantChain(t, "handed in, and changed", k, chain.Chain{Gen: 1, Tag: 1, Refs: 1, Data: bytes(n)}, down(1+need, 2)...)
		k.Back(first)
	}
}

// TestP1201AnswersStay asks that what was answered is as it was behind later calls.
func TestP1201AnswersStay(t *testing.T) {
	_, k := formatted(t, 200)
	for _, n := range []int{1, 236, 237, 3000, longs} {
		need := sectorsOf(n)
		at := 1 + need
		wantPut(t, "Put", k, 1, 1, bytes(n), down(at, 2)...)
		c, _ := chain.Get(k, at)
		c2, _ := chain.Get(k, at)
		l, _ := chain.Sectors(k, at)
		l2, _ := chain.Sectors(k, at)
		if unsafe.StringData(c.Data) == unsafe.StringData(c2.Data) {
			t.Error("two answers of Get share their memory")
		}
		wantRefs(t, "Refs", k, at, 8, 9, api.OK)
		want(t, "Drop", api.OK, chain.Drop(k, at))
		wantPut(t, "Put", k, 3, 9, strings.Repeat("z", longs), down(41, 2)...)
		clear(l2)
		if c != (chain.Chain{Gen: 1, Tag: 1, Refs: 1, Data: bytes(n)}) || !slices.Equal(l, down(at, 2)) {
			t.Errorf("answers behind later calls: %d, %d, %d, %.8q, %v", c.Gen, c.Tag, c.Refs, c.Data, l)
		}
		want(t, "Drop", api.OK, chain.Drop(k, 41))
	}
}

// P1201, P1203: a Desk that is nil, bad, or has no power.

func TestP1201NoDesk(t *testing.T) {
	for _, n := range []int{0, 1, 237, longs} {
		wantNoPut(t, "nil", nil, 1, 1, bytes(n), api.ErrArg)
		wantNoPut(t, "nil", nil, 4, 1, bytes(n), api.ErrArg)
	}
	for _, at := range append(outside(fewest), 0, 1, 2, 28) {
		wantNothing(t, "nil", nil, at, api.ErrArg)
	}
}

func TestP1201BadDesk(t *testing.T) {
	d, k := formatted(t, api.Least)
	wantPut(t, "committed", k, 1, 1, bytes(300), 3, 2)
	want(t, "Sync", api.OK, k.Sync())
	wantPut(t, "on the desk", k, 1, 1, bytes(300), 5, 4)
	d.Arm(3)
	want(t, "Sync", api.ErrOff, k.Sync())
	for range 2 {
		for _, at := range append(outside(fewest), 0, 1, 2, 3, 4, 5, 28) {
			wantNone(t, "bad", d, k, at, api.ErrOff)
		}
		kept(t, "bad", d, k, func() {
			wantNoPut(t, "bad", k, 1, 1, "", api.ErrOff)
			wantNoPut(t, "bad", k, 3, 200, bytes(longs), api.ErrOff)
			wantNoPut(t, "ErrArg ahead of what stays", k, 0, 1, "", api.ErrArg)
			wantNoPut(t, "ErrArg ahead of what stays", k, 1, 201, "", api.ErrArg)
			wantNoPut(t, "ErrLong ahead of what stays", k, 1, 1, bytes(longs+1), api.ErrLong)
			wantRefs(t, "bad", k, 5, 60000, 0, api.ErrOff)
		})
		d.Restore()
	}
	k = opened(t, d)
	wantUsed(t, "opened", k, 0, 1, 2, 3)
	wantChain(t, "opened", k, chain.Chain{Gen: 1, Tag: 1, Refs: 1, Data: bytes(300)}, 3, 2)
}

// TestP1201NoPower has a disk without power: what is on the desk can be read and changed, the rest is ErrOff, which does not stay.
func TestP1201NoPower(t *testing.T) {
	d, k := formatted(t, api.Least)
	wantPut(t, "committed", k, 1, 1, bytes(300), 3, 2)
	want(t, "Sync", api.OK, k.Sync())
	c := chain.Chain{Gen: 2, Tag: 6, Refs: 1, Data: bytes(800)}
	wantPut(t, "on the desk", k, 2, 6, c.Data, 7, 6, 5, 4)
	wantRefs(t, "the first one on the desk", k, 3, 1, 2, api.OK)
	d.Crash()
	wantNone(t, "the second one is not on the desk", d, k, 3, api.ErrOff)
	wantNone(t, "not on the desk", d, k, 2, api.ErrOff)
	wantNone(t, "no home sector", d, k, fewest, api.ErrRange)
	wantChain(t, "on the desk", k, c, 7, 6, 5, 4)
	wantPut(t, "without power", k, 3, 7, bytes(500), 10, 9, 8)
	want(t, "Drop", api.OK, chain.Drop(k, 7))
	d.Restore()
	want(t, "Sync", api.OK, k.Sync())
	k = opened(t, d)
	wantUsed(t, "opened", k, 0, 1, 2, 3, 8, 9, 10)
	wantChain(t, "opened", k, chain.Chain{Gen: 1, Tag: 1, Refs: 2, Data: bytes(300)}, 3, 2)
	wantChain(t, "opened", k, chain.Chain{Gen: 3, Tag: 7, Refs: 1, Data: bytes(500)}, 10, 9, 8)
}

// P1201, P1203: behind a loss of power.

// worked tells a Desk of a disk on which a chain was put, one was used, and one was dropped.
func worked(t *testing.T, d *disk.Disk) *desk.Desk {
	t.Helper()
	k := opened(t, d)
	wantPut(t, "worked", k, 3, 100, bytes(500), 7, 6, 5)
	wantRefs(t, "worked", k, 3, 4, 5, api.OK)
	want(t, "worked", api.OK, chain.Drop(k, 4))
	return k
}

// TestP1203Power lets the power go at each act of a Sync: opened again the disk has all that was done to its chains, or nothing.
func TestP1203Power(t *testing.T) {
	first, k := formatted(t, api.Least)
	wantPut(t, "first", k, 1, 5, bytes(300), 3, 2)
	wantPut(t, "first", k, 2, 7, bytes(40), 4)
	want(t, "Sync", api.OK, k.Sync())
	for n := range 19 {
		for _, keep := range choices(4) {
			d, told := broken(first, n, keep, func(d *disk.Disk) api.Errno { return worked(t, d).Sync() })
			if (told == api.OK) != (n >= 16) {
				t.Errorf("the power goes at %d: told %d", n, told)
			}
			for m := range 9 {
				c, _ := broken(d, m, choices(4)[(n+5*m)%16], open)
				k := opened(t, c)
				used := chain.Chain{Gen: 1, Tag: 5, Refs: 1, Data: bytes(300)}
				if behind := k.Room().Used(7); behind {
					used.Refs = 5
					wantUsed(t, "as behind it", k, 0, 1, 2, 3, 5, 6, 7)
					wantChain(t, "as behind it", k, chain.Chain{Gen: 3, Tag: 100, Refs: 1, Data: bytes(500)}, 7, 6, 5)
				} else {
					want(t, "as ahead of it", api.ErrOff, told)
					wantUsed(t, "as ahead of it", k, 0, 1, 2, 3, 4)
					wantChain(t, "as ahead of it", k, chain.Chain{Gen: 2, Tag: 7, Refs: 1, Data: bytes(40)}, 4)
				}
				wantChain(t, "used", k, used, 3, 2)
				wantDirty(t, "opened", k)
			}
		}
	}
}

// TestP1203PowerLongest does so with a chain of as many sectors as there may be, in the places of one that is dropped.
func TestP1203PowerLongest(t *testing.T) {
	first, k := formatted(t, 160)
	old := chain.Chain{Gen: 1, Tag: 5, Refs: 1, Data: bytes(longs - 1)}
	next := chain.Chain{Gen: 2, Tag: 6, Refs: 1, Data: bytes(longs)}
	wantPut(t, "first", k, 1, 5, old.Data, down(41, 2)...)
	wantPut(t, "first", k, 1, 5, "", 42)
	want(t, "Sync", api.OK, k.Sync())
	for n := range 88 {
		for m, keep := range sample.Somes(41) {
			d, told := broken(first, n, keep, func(d *disk.Disk) api.Errno {
				k := opened(t, d)
				want(t, "Drop", api.OK, chain.Drop(k, 41))
				want(t, "Drop", api.OK, chain.Drop(k, 42))
				wantPut(t, "Put", k, 2, 6, next.Data, down(41, 2)...)
				return k.Sync()
			})
			d, _ = broken(d, (7*n+19*m)%45, sample.Somes(41)[(n+m)%6], open)
			k := opened(t, d)
			if k.Room().Used(42) {
				want(t, "as ahead of it", api.ErrOff, told)
				wantChain(t, "as ahead of it", k, old, down(41, 2)...)
				wantUsed(t, "as ahead of it", k, upTo(0, 43)...)
			} else {
				wantChain(t, "as behind it", k, next, down(41, 2)...)
				wantUsed(t, "as behind it", k, upTo(0, 42)...)
			}
		}
	}
}

func TestP1203NotSynced(t *testing.T) {
	d, k := formatted(t, api.Least)
	wantPut(t, "committed", k, 1, 5, bytes(300), 3, 2)
	want(t, "Sync", api.OK, k.Sync())
	worked := []func(){
		func() { wantPut(t, "Put", k, 1, 5, bytes(700), 6, 5, 4) },
		func() { wantRefs(t, "Refs", k, 3, 3, 4, api.OK) },
		func() { want(t, "Drop", api.OK, chain.Drop(k, 3)) },
	}
	for _, do := range worked {
		do()
		d.Crash(1, 1, 1, 1, 1, 1, 1, 1)
		d.Restore()
		k = opened(t, d)
		wantUsed(t, "not synced", k, 0, 1, 2, 3)
		wantChain(t, "not synced", k, chain.Chain{Gen: 1, Tag: 5, Refs: 1, Data: bytes(300)}, 3, 2)
	}
}

// P1201, P1203: all together.

// judge tells by the chapter's words which chain stands at a place; a place without a link is of zero bytes.
func judge(at int, l map[int]link) (c chain.Chain, places []int, e api.Errno) {
	seen := map[int]bool{}
	for next := -1; next != 0; at = next {
		x, ok := l[at]
		first := len(places) == 0
		switch {
		case !ok || seen[at] || len(places) == 40,
			x.kind != 2 || x.gen < 1 || x.gen > 3 || x.tag > 200 || x.number != len(places),
			x.size > part || strings.Trim(x.room()[x.size:], zero) != "",
			x.next != 0 && x.size != part,
			!first && (x.gen != c.Gen || x.tag != c.Tag || x.refs != 0 || x.size == 0):
			return chain.Chain{}, nil, api.ErrBroken
		}
		if first {
			c.Gen, c.Tag, c.Refs = x.gen, x.tag, x.refs
		}
		c.Data += x.room()[:x.size]
		places = append(places, at)
		seen[at], next = true, x.next
	}
	return c, places, api.OK
}

// turn changes something of a link.
func turn(r *sample.Draw, x link) link {
	switch r.Below(10) {
	case 0:
		x.kind = r.One(0, 1, 2, 3, 6, 255)
	case 1:
		x.gen = r.One(0, 1, 2, 3, 4, 255)
	case 2:
		x.tag = r.One(0, 1, 199, 200, 201, 255)
	case 3:
		x.number = r.One(0, 1, 2, 3, 4, 39, 40, 255)
	case 4:
		x.refs = r.One(0, 0, 1, 2, 256, 60000)
	case 5, 6:
		x.next = r.One(0, 0, 1, 2, 3, 4, 5, 6, 7, 8, 9, 10, 11, 12)
	case 7:
		x.size = r.One(0, 1, 235, 236, 237, 242)
	case 8:
		x = x.with(bytes(r.One(0, 1, 2, 235, 236, 237, 242)))
	case 9:
		x.data = x.room()[:r.One(0, 1, 235, 236, 241)] + string([]byte{byte(r.Below(3))})
	}
	return x
}

// TestP1201Judged lets chains of which something was changed stand in a few places, and asks for the same of each place as a judge tells.
func TestP1201Judged(t *testing.T) {
	d, k := formatted(t, api.Least)
	want(t, "Keep", api.OK, k.Keep(upTo(2, 11)...))
	r := sample.Draw(7)
	good := 0
	for i := range 6000 {
		l := map[int]link{}
		order := r.Shuffled(upTo(2, 11))
		for len(order) > 0 {
			n := min(len(order), 1+r.Below(5))
			size := n*part - r.One(0, 0, 1, 100, 235)
			for m, x := range links(chain.Chain{Gen: 1 + r.Below(3), Tag: r.Below(3), Refs: r.Below(4), Data: bytes(size)}, order[:n]...) {
				l[order[m]] = x
			}
			order = order[n:]
		}
		for range r.Below(6) {
			at := 2 + r.Below(9)
			l[at] = turn(&r, l[at])
		}
		for at, x := range l {
			want(t, "Set", api.OK, k.Set(at, x.sector()))
		}
		for at := range 13 {
			c, places, e := judge(at, l)
			if e != api.OK {
				wantNothing(t, "judged", k, at, e)
				continue
			}
			good++
			wantRead(t, "judged", k, c, places...)
			m := k.Mark()
			wantRefs(t, "judged", k, at, 0, c.Refs, api.OK)
			want(t, "judged", api.OK, chain.Drop(k, at))
			wantUsed(t, "judged", k, slices.DeleteFunc(upTo(0, 11), func(at int) bool { return slices.Contains(places, at) })...)
			k.Back(m)
		}
		if i%50 == 0 {
			want(t, "Sync", api.OK, k.Sync())
			k = opened(t, d)
		}
		if t.Failed() {
			t.Fatalf("the links are %v", l)
		}
	}
	if good < 2000 {
		t.Errorf("%d good chains", good)
	}
}

// kepts tells the chains of a Desk by lists.
type kepts struct {
	chains map[int]chain.Chain // by the first one's place
	places map[int][]int
	size   int
}

// copyOf tells another one alike.
func (m kepts) copyOf() kepts {
	c := kepts{map[int]chain.Chain{}, map[int][]int{}, m.size}
	for at, x := range m.chains {
		c.chains[at], c.places[at] = x, m.places[at]
	}
	return c
}

// used tells the sectors in use.
func (m kepts) used() []int {
	l := []int{0, 1}
	for _, places := range m.places {
		l = append(l, places...)
	}
	slices.Sort(l)
	return l
}

// firsts tells the places of all chains, rising.
func (m kepts) firsts() []int {
	var l []int
	for at := range m.chains {
		l = append(l, at)
	}
	slices.Sort(l)
	return l
}

// put keeps a chain.
func (m kepts) put(c chain.Chain) (int, api.Errno) {
	need := sectorsOf(len(c.Data))
	used := m.used()
	free := slices.DeleteFunc(upTo(0, m.size), func(at int) bool { return slices.Contains(used, at) })
	switch {
	case c.Gen < 1 || c.Gen > 3 || c.Tag < 0 || c.Tag > 200:
		return 0, api.ErrArg
	case len(c.Data) > longs:
		return 0, api.ErrLong
	case need > len(free):
		return 0, api.ErrFull
	}
	places := slices.Clone(free[:need])
	slices.Reverse(places)
	m.chains[places[0]], m.places[places[0]] = c, places
	return places[0], api.OK
}

// run is a Desk, its disk, and lists of its chains: as they are, and as they were synced.
type run struct {
	t           *testing.T
	d           *disk.Disk
	k           *desk.Desk
	now, synced kepts
	sample.Draw
}

// put puts something, now and then what can't be put.
func (r *run) put() {
	n := r.One(0, 1, 235, 236, 237, 472, 473, r.Below(3000), r.Below(10000), longs, longs+1)
	c := chain.Chain{Gen: 1 + r.Below(3), Tag: r.Below(201), Refs: 1, Data: bytes(n)}
	if r.Below(20) == 0 {
		c.Gen, c.Tag = r.One(0, 1, 3, 4), r.One(-1, 0, 200, 201)
	}
	at, e := chain.Put(r.k, c.Gen, c.Tag, c.Data)
	at2, e2 := r.now.put(c)
	if at != at2 || e != e2 {
		r.t.Errorf("Put: %d, %d, not %d, %d", at, e, at2, e2)
	}
}

// use uses a chain more, or less.
func (r *run) use(at int) {
	c := r.now.chains[at]
	by := r.One(1, -1, 2, -2, 1000, -1000, 60000-c.Refs, 60001-c.Refs, -c.Refs-1)
	n, e := c.Refs+by, api.OK
	if n < 0 || n > 60000 {
		n, e = 0, api.ErrRange
	} else {
		c.Refs = n
		r.now.chains[at] = c
	}
	wantRefs(r.t, "run", r.k, at, by, n, e)
}

// sync lets the power go in a Sync now and then; the disk is opened again.
func (r *run) sync() {
	k, e := desks.Sync(r.t, r.d, r.k, &r.Draw)
	r.k = k
	if e == api.OK || e == api.ErrOff && r.same(r.now) {
		r.synced = r.now.copyOf()
	} else {
		r.now = r.synced.copyOf() // all that is not synced is gone
	}
}

// same tells whether the Desk has just these chains.
func (r *run) same(m kepts) bool {
	for at, c := range m.chains {
		if got, e := chain.Get(r.k, at); got != c || e != api.OK {
			return false
		}
	}
	return slices.Equal(r.k.Room().All(), m.used())
}

// step does something, and asks for the same of the Desk and of the lists.
func (r *run) step() {
	l := r.now.firsts()
	switch n := r.Below(12); {
	case n < 4 || len(l) == 0:
		r.put()
	case n < 7:
		r.use(r.One(l...))
	case n < 9:
		at := r.One(l...)
		want(r.t, "Drop", api.OK, chain.Drop(r.k, at))
		delete(r.now.chains, at)
		delete(r.now.places, at)
	case n < 10:
		m, was := r.k.Mark(), r.now.copyOf()
		r.put()
		r.use(r.One(l...))
		want(r.t, "Drop", api.OK, chain.Drop(r.k, l[0]))
		r.k.Back(m)
		r.now = was
	case n < 11:
		r.sync()
	}
}

func TestP1201ToP1203Run(t *testing.T) {
	for _, n := range []int{api.Least, 170, 300} {
		d, k := formatted(t, n)
		m := kepts{map[int]chain.Chain{}, map[int][]int{}, n - 111}
		r := &run{t, d, k, m, m.copyOf(), sample.Draw(n)}
		for i := range 2000 {
			r.step()
			wantUsed(t, "run", r.k, r.now.used()...)
			for _, at := range r.now.firsts() {
				wantRead(t, "run", r.k, r.now.chains[at], r.now.places[at]...)
			}
			if t.Failed() {
				t.Fatalf("of %d sectors, step %d", n, i)
			}
		}
	}
}
