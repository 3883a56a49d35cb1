package brick_test

import (
	"crypto/sha1"
	"crypto/sha256"
	"encoding/hex"
	"maps"
	"math"
	"slices"
	"strings"
	"testing"
	"unsafe"

	"masonry/api"
	"masonry/brick"
	"masonry/chain"
	"masonry/crc"
	"masonry/desk"
	"masonry/desks"
	"masonry/disk"
	"masonry/sample"
	"masonry/witness"
)

const (
	fewest = api.Least - 111 // home sectors of a disk of the fewest sectors
	most   = 128             // bytes of the longest piece, written out
	part   = 236             // bytes of a chain in a sector
	zero   = "\x00"
)

var (
	broken, kept        = witness.Broken, witness.Kept
	want, wantGet       = witness.Want, witness.WantGet
	wantUsed, wantDirty = witness.WantUsed, witness.WantDirty
	upTo, outside       = sample.UpTo, sample.Outside
	bytes, choices      = sample.Bytes, sample.Choices
	formatted, opened   = desks.Formatted, desks.Opened
)

// printOf tells the print of bytes in a form, by the library's digests.
func printOf(gen int, data string) api.Print {
	if gen == 1 {
		sum := sha1.Sum([]byte(data))
		return api.Print{Kind: 1, Sum: string(sum[:])}
	}
	sum := sha256.Sum256([]byte(data))
	return api.Print{Kind: 2, Sum: string(sum[:])}
}

// lay tells the 33 bytes of a print.
func lay(p api.Print) string {
	return string([]byte{byte(p.Kind)}) + p.Sum + strings.Repeat(zero, 32-len(p.Sum))
}

// laid tells the bytes of the chain that a brick is.
func laid(gen int, data string) string { return lay(printOf(gen, data)) + data }

// sector tells the sector of a chain of one sector, laid by hand; one that has a next one has all the bytes that it may have.
func sector(gen, tag, refs, next int, data string) string {
	low := func(n int) string { return string([]byte{byte(n), byte(n >> 8)}) }
	b, e := crc.Seal(api.Sector, string([]byte{2, byte(gen), byte(tag), 0})+low(refs)+low(next)+low(len(data))+data)
	if e != api.OK {
		panic("no sector")
	}
	return b
}

// piece tells a brick.
func piece(gen, refs int, data string) brick.Brick {
	return brick.Brick{Gen: gen, Refs: refs, Print: printOf(gen, data), Data: data}
}

// sectorOf tells the sector of a brick.
func sectorOf(b brick.Brick) string { return sector(b.Gen, 1, b.Refs, 0, laid(b.Gen, b.Data)) }

// stand lets a brick stand at a place of a Desk.
func stand(t *testing.T, k *desk.Desk, at int, b brick.Brick) {
	t.Helper()
	want(t, "desk.Set", api.OK, k.Set(at, sectorOf(b)))
}

// wantPut asks that Put keeps l at a place, as a brick that is used once.
func wantPut(t *testing.T, what string, k *desk.Desk, gen, at int, l ...string) {
	t.Helper()
	if got, e := brick.Put(k, gen, l...); got != at || e != api.OK {
		t.Errorf("%s: Put of %d texts %.40q: %d, %d, not %d", what, len(l), l, got, e, at)
	}
	wantBrick(t, what, k, at, piece(gen, 1, strings.Join(l, "")))
}

// wantNoPut asks that Put answers the error want, and nothing.
func wantNoPut(t *testing.T, what string, k *desk.Desk, gen int, want api.Errno, l ...string) {
	t.Helper()
	if at, e := brick.Put(k, gen, l...); at != 0 || e != want {
		t.Errorf("%s: Put in the form %d of %d texts %.40q: %d, %d, not error %d", what, gen, len(l), l, at, e, want)
	}
}

// wantBrick asks for the brick at a place, and for its sector.
func wantBrick(t *testing.T, what string, k *desk.Desk, at int, b brick.Brick) {
	t.Helper()
	wantRead(t, what, k, at, b)
	wantGet(t, what, k, at, sectorOf(b))
}

// wantRead asks that Get tells the brick at a place.
func wantRead(t *testing.T, what string, k *desk.Desk, at int, b brick.Brick) {
	t.Helper()
	if got, e := brick.Get(k, at); got != b || e != api.OK {
		t.Errorf("%s: Get of %d: %x, %d, not %x", what, at, got, e, b)
	}
}

// wantUse asks what Use tells.
func wantUse(t *testing.T, what string, k *desk.Desk, at, by, n int, want api.Errno) {
	t.Helper()
	if got, e := brick.Use(k, at, by); got != n || e != want {
		t.Errorf("%s: Use of %d by %d: %d, %d, not %d, %d", what, at, by, got, e, n, want)
	}
}

// wantNothing asks that Get, Use and Drop each answer the error want, and nothing.
func wantNothing(t *testing.T, what string, k *desk.Desk, at int, wanted api.Errno) {
	t.Helper()
	if got, e := brick.Get(k, at); got != (brick.Brick{}) || e != wanted {
		t.Errorf("%s: Get of %d: %x, %d, not error %d", what, at, got, e, wanted)
	}
	for _, by := range []int{0, 1, -1, 60001, math.MinInt, math.MaxInt} {
		wantUse(t, what, k, at, by, 0, wanted)
	}
	want(t, what+": Drop", wanted, brick.Drop(k, at))
}

// wantNone asks that Get, Use and Drop each answer the error want, and nothing, and that nothing changes.
func wantNone(t *testing.T, what string, d *disk.Disk, k *desk.Desk, at int, wanted api.Errno) {
	t.Helper()
	kept(t, what, d, k, func() {
		t.Helper()
		wantNothing(t, what, k, at, wanted)
	})
}

// drop drops bricks.
func drop(t *testing.T, what string, k *desk.Desk, l ...int) {
	t.Helper()
	for _, at := range l {
		want(t, what+": Drop", api.OK, brick.Drop(k, at))
	}
}

// P1601: Kind.

// noForms tells numbers that are no form.
func noForms() []int {
	return append(sample.Extremes(), 0, -1, -2, -3, 4, 5, 255, 256, 257, 1<<16+1, 1<<32+1, 1<<32+2, -1<<32+3)
}

func TestP1601Kind(t *testing.T) {
	for gen, kind := range map[int]int{1: 1, 2: 2, 3: 2} {
		if got := brick.Kind(gen); got != kind {
			t.Errorf("Kind(%d): %d, not %d", gen, got, kind)
		}
	}
	for _, gen := range noForms() {
		if got := brick.Kind(gen); got != 0 {
			t.Errorf("Kind(%d): %d, not 0", gen, got)
		}
	}
}

// P1601: Put.

// TestP1601Put puts as many bytes as there may be, in each form.
func TestP1601Put(t *testing.T) {
	d, k := formatted(t, api.Least)
	first := k.Mark()
	for gen := 1; gen <= 3; gen++ {
		for n := 1; n <= most; n++ {
			witness.Untouched(t, "Put", d, func() { wantPut(t, "Put", k, gen, 2, bytes(n)) })
			wantUsed(t, "Put", k, 0, 1, 2)
			wantDirty(t, "Put", k, 1, 2)
			for _, at := range []int{0, 3, fewest - 1} {
				wantGet(t, "Put", k, at, sample.Full(0))
			}
			k.Back(first)
		}
	}
}

// TestP1601PutSectors holds what is put against written-out bytes.
func TestP1601PutSectors(t *testing.T) {
	_, k := formatted(t, api.Least)
	one, _ := hex.DecodeString("a9993e364706816aba3e25717850c26c9cd0d89d")
	two, _ := hex.DecodeString("ba7816bf8f01cfea414140de5dae2223b00361a396177a9cb410ff61f20015ad")
	for n, c := range []struct {
		head string
		p    api.Print
	}{
		{"\x02\x01\x01\x00\x01\x00\x00\x00\x24\x00\x01" + string(one) + strings.Repeat(zero, 12), api.Print{Kind: api.ShaOne, Sum: string(one)}},
		{"\x02\x02\x01\x00\x01\x00\x00\x00\x24\x00\x02" + string(two), api.Print{Kind: api.ShaTwo, Sum: string(two)}},
		{"\x02\x03\x01\x00\x01\x00\x00\x00\x24\x00\x02" + string(two), api.Print{Kind: api.ShaTwo, Sum: string(two)}},
	} {
		wantPut(t, "written out", k, n+1, n+2, "a", "bc")
		sealed, _ := crc.Seal(256, c.head+"abc")
		wantGet(t, "written out", k, n+2, sealed)
		wantRead(t, "written out", k, n+2, brick.Brick{Gen: n + 1, Refs: 1, Print: c.p, Data: "abc"})
		if got, e := chain.Get(k, n+2); got != (chain.Chain{Gen: n + 1, Tag: 1, Refs: 1, Data: c.head[10:] + "abc"}) || e != api.OK {
			t.Errorf("the chain: %x, %d", got, e)
		}
	}
}

// TestP1601PutTexts puts the same bytes in one text and in several, empty ones among them.
func TestP1601PutTexts(t *testing.T) {
	_, k := formatted(t, api.Least)
	first := k.Mark()
	for gen := 1; gen <= 3; gen++ {
		for _, n := range []int{1, 2, 64, 95, 96, 127, most} { // 95 and its print are two blocks of 64 bytes
			b := bytes(n)
			wantPut(t, "one text", k, gen, 2, b)
			whole, _ := k.Get(2)
			k.Back(first)
			l := append(sample.Cuts(b[:min(n, 12)]), sample.Single(b), []string{"", b, ""}, []string{b, "", "", ""}, append(make([]string, 1000), b))
			l = append(l, slices.Insert(sample.Single(b), n/2, "", ""), append(sample.Single(b), make([]string, 1000)...))
			for _, c := range l {
				if cut := strings.Join(c, ""); cut != b {
					c = append(c, b[len(cut):])
				}
				wantPut(t, "several texts", k, gen, 2, c...)
				wantGet(t, "several texts", k, 2, whole)
				k.Back(first)
			}
			for at := range n {
				wantPut(t, "two texts", k, gen, 2, b[:at], b[at:])
				wantGet(t, "two texts", k, 2, whole)
				k.Back(first)
			}
		}
	}
}

func TestP1601PutAnyBytes(t *testing.T) {
	_, k := formatted(t, api.Least)
	first := k.Mark()
	each := sample.Each()
	l := []string{each[:most], each[most:], strings.Repeat("\u00e4", 64), strings.Repeat("\u20ac", 42), "\xff\xfe" + strings.Repeat("\x80", 100)}
	for _, b := range sample.Single(each) {
		l = append(l, b, b+b, strings.Repeat(b, 64), strings.Repeat(b, most), zero+b, b+zero)
	}
	for _, n := range []int{1, 2, 32, 33, 63, 127} {
		l = append(l, strings.Repeat(zero, n)+"x", "x"+strings.Repeat(zero, n), strings.Repeat(zero, n))
	}
	l = append(l, laid(1, "abc"), laid(2, "abc"), laid(1, bytes(95)), laid(2, bytes(95)), laid(3, bytes(95))[:33]) // a print may be what is kept
	for n, b := range l {
		wantPut(t, "any bytes", k, 1+n%3, 2, b)
		k.Back(first)
		wantPut(t, "any bytes", k, 1+(n+1)%3, 2, b[:len(b)/2], b[len(b)/2:])
		k.Back(first)
	}
}

// wrongs tells what has no bytes, or too many.
func wrongs() [][]string {
	l := append(sample.Nothing(), make([]string, 1<<16))
	for _, n := range []int{most + 1, most + 2, 161, 162, 203, 204, 236, 256, 256 + 7, 65536, 65536 + 5, 1 << 20} {
		b := bytes(n)
		l = append(l, []string{b}, []string{b[:n/2], b[n/2:]}, []string{"", b, ""}, []string{b[:1], b[1:]}, []string{b[:n-1], b[n-1:]}, []string{b[:most], "", b[most:]})
	}
	half := bytes(64)
	return append(l, sample.Single(bytes(most+1)), sample.Single(bytes(4000)), []string{half, half, "x"}, []string{bytes(most), bytes(most), "", bytes(most)}, slices.Repeat([]string{half}, 1000))
}

// TestP1601PutWrong asks in each form, and in what is none, for ErrArg of no bytes, or too many; in what is none also of bytes that may be.
func TestP1601PutWrong(t *testing.T) {
	d, k := formatted(t, api.Least)
	wantPut(t, "committed", k, 1, 2, "abc")
	want(t, "Sync", api.OK, k.Sync())
	wantPut(t, "on the desk", k, 2, 3, "def")
	kept(t, "wrong", d, k, func() {
		for _, l := range wrongs() {
			for gen := 1; gen <= 3; gen++ {
				wantNoPut(t, "no bytes, or too many", k, gen, api.ErrArg, l...)
			}
		}
		for _, gen := range noForms() {
			for _, l := range append(wrongs(), []string{"a"}, []string{"a", "bc"}, []string{bytes(most)}, sample.Single(bytes(most))) {
				wantNoPut(t, "no form", k, gen, api.ErrArg, l...)
			}
		}
	})
	wantPut(t, "behind", k, 3, 4, bytes(most))
}

// TestP1601PutTillFull has just as many sectors left as are needed, which is one, and none.
func TestP1601PutTillFull(t *testing.T) {
	for _, free := range []int{2, 3, 15, fewest - 2, fewest - 1} {
		for gen := 1; gen <= 3; gen++ {
			for _, n := range []int{1, 64, most} {
				d, k := formatted(t, api.Least)
				want(t, "Keep", api.OK, k.Keep(slices.DeleteFunc(upTo(2, fewest), func(at int) bool { return at == free })...))
				want(t, "Sync", api.OK, k.Sync())
				wantPut(t, "just enough", k, gen, free, bytes(n))
				wantUsed(t, "just enough", k, upTo(0, fewest)...)
				wantDirty(t, "just enough", k, 1, free)
				kept(t, "none left", d, k, func() {
					wantNoPut(t, "none left", k, gen, api.ErrFull, bytes(n))
					wantNoPut(t, "none left", k, gen, api.ErrFull, "", "a")
					wantNoPut(t, "ErrArg ahead of ErrFull", k, gen, api.ErrArg)
					wantNoPut(t, "ErrArg ahead of ErrFull", k, gen, api.ErrArg, bytes(n), bytes(most))
					wantNoPut(t, "ErrArg ahead of ErrFull", k, 0, api.ErrArg, bytes(n))
					wantNoPut(t, "ErrArg ahead of ErrFull", k, 4, api.ErrArg, bytes(n))
				})
				drop(t, "none left", k, free)
				wantPut(t, "one left again", k, gen, free, bytes(n))
			}
		}
	}
}

// TestP1601PutFullKeeps has much on the desk when a Put is refused: all of it is as it was, and Marks of before it are good.
func TestP1601PutFullKeeps(t *testing.T) {
	d, k := formatted(t, api.Least)
	for at := 2; at < 10; at++ {
		wantPut(t, "committed", k, 1+at%3, at, bytes(at))
	}
	want(t, "Sync", api.OK, k.Sync())
	first := k.Mark()
	drop(t, "on the desk", k, 5)
	wantPut(t, "on the desk", k, 2, 5, bytes(70))
	wantUse(t, "on the desk", k, 3, 6, 7, api.OK)
	want(t, "Set", api.OK, k.Set(0, sample.Full('z')))
	for at := 10; at < fewest; at++ {
		wantPut(t, "on the desk", k, 1+at%3, at, bytes(at))
	}
	for range 3 {
		for gen := 1; gen <= 3; gen++ {
			kept(t, "refused", d, k, func() { wantNoPut(t, "refused", k, gen, api.ErrFull, "a", "b") })
		}
	}
	wantDirty(t, "refused", k, append([]int{0, 1, 3, 5}, upTo(10, fewest)...)...)
	k.Back(first)
	wantDirty(t, "Back", k)
	for at := 2; at < 10; at++ {
		wantBrick(t, "Back", k, at, piece(1+at%3, 1, bytes(at)))
	}
	wantPut(t, "Back", k, 2, 10, bytes(70))
}

// TestP1601PutTheSame puts the same bytes twice, and in each form: they are kept each time.
func TestP1601PutTheSame(t *testing.T) {
	_, k := formatted(t, api.Least)
	b := bytes(100)
	for n, gen := range []int{1, 1, 2, 2, 3, 3} {
		wantPut(t, "again", k, gen, 2+n, b[:n], b[n:])
	}
	wantUse(t, "of the one", k, 2, 6, 7, api.OK)
	wantUse(t, "of the one", k, 4, -1, 0, api.OK)
	drop(t, "of the one", k, 6)
	wantBrick(t, "the one", k, 2, piece(1, 7, b))
	wantBrick(t, "the other one", k, 3, piece(1, 1, b))
	wantBrick(t, "the one", k, 4, piece(2, 0, b))
	wantBrick(t, "the other one", k, 5, piece(2, 1, b))
	wantBrick(t, "the other one", k, 7, piece(3, 1, b))
	wantUsed(t, "again", k, 0, 1, 2, 3, 4, 5, 7)
}

func TestP1601PutBehindDrop(t *testing.T) {
	d, k := formatted(t, api.Least)
	for at := 2; at < 7; at++ {
		wantPut(t, "first", k, 1, at, bytes(at))
	}
	drop(t, "first", k, 4)
	wantPut(t, "in its place", k, 2, 4, bytes(most))
	drop(t, "first", k, 6, 2)
	wantPut(t, "the least place", k, 3, 2, "x")
	wantPut(t, "the next one", k, 3, 6, "y")
	wantPut(t, "behind all", k, 3, 7, "z")
	want(t, "Sync", api.OK, k.Sync())
	drop(t, "committed", k, 4)
	wantPut(t, "where one was committed", k, 1, 4, "w")
	wantDirty(t, "where one was committed", k, 4)
	wantBrick(t, "not committed", opened(t, d), 4, piece(2, 1, bytes(most)))
	want(t, "Sync", api.OK, k.Sync())
	k = opened(t, d)
	wantUsed(t, "opened", k, upTo(0, 8)...)
	for at, b := range map[int]brick.Brick{2: piece(3, 1, "x"), 3: piece(1, 1, bytes(3)), 4: piece(1, 1, "w"), 5: piece(1, 1, bytes(5)), 6: piece(3, 1, "y"), 7: piece(3, 1, "z")} {
		wantBrick(t, "opened", k, at, b)
	}
}

// TestP1601PutFarPlaces has places that need two bytes.
func TestP1601PutFarPlaces(t *testing.T) {
	d, k := formatted(t, api.Sectors)
	free := []int{255, 256, 257, 1000, 1887, 1888}
	want(t, "Keep", api.OK, k.Keep(slices.DeleteFunc(upTo(2, 1889), func(at int) bool { return slices.Contains(free, at) })...))
	for n, at := range free {
		wantPut(t, "far", k, 1+n%3, at, bytes(most-n))
		wantUse(t, "far", k, at, 300+n, 301+n, api.OK)
	}
	wantNoPut(t, "far", k, 1, api.ErrFull, "a")
	want(t, "Sync", api.OK, k.Sync())
	k = opened(t, d)
	for n, at := range free {
		wantBrick(t, "far", k, at, piece(1+n%3, 301+n, bytes(most-n)))
	}
	drop(t, "far", k, 256, 1888)
	wantUsed(t, "far", k, slices.DeleteFunc(upTo(0, 1889), func(at int) bool { return at == 256 || at == 1888 })...)
}

// P1601: Get, and with it what Use and Drop tell of what is no brick.

// TestP1601GetLaid has good bricks that were laid by hand, with Refs of 0 and on.
func TestP1601GetLaid(t *testing.T) {
	_, k := formatted(t, api.Least)
	want(t, "Keep", api.OK, k.Keep(upTo(2, fewest)...))
	for gen := 1; gen <= 3; gen++ {
		for n, refs := range []int{0, 1, 2, 127, 128, 255, 256, 257, 30000, 59999, 60000} {
			for m, data := range []string{bytes(n + 1), bytes(most - n), strings.Repeat(zero, 1+n), "x"} {
				at := 2 + (7*n+m)%(fewest-2)
				stand(t, k, at, piece(gen, refs, data))
				wantRead(t, "laid by hand", k, at, piece(gen, refs, data))
				wantUse(t, "laid by hand", k, at, 0, refs, api.OK)
				wantUse(t, "laid by hand", k, at, -refs, 0, api.OK)
				wantBrick(t, "laid by hand, used by none", k, at, piece(gen, 0, data))
			}
		}
	}
}

func TestP1601NoPlace(t *testing.T) {
	for _, n := range []int{api.Least, 222, api.Sectors} {
		d, k := formatted(t, n)
		wantPut(t, "a brick", k, 1, 2, "abc")
		for range 2 {
			for _, at := range outside(n - 111) {
				wantNone(t, "no home sector", d, k, at, api.ErrRange)
			}
			for _, at := range []int{0, 1, 3, n - 112} {
				wantNone(t, "no brick", d, k, at, api.ErrBroken)
			}
			want(t, "Sync", api.OK, k.Sync())
		}
		wantBrick(t, "a brick", k, 2, piece(1, 1, "abc"))
	}
}

// odd is a chain that is no brick.
type odd struct {
	gen, tag int
	data     string
}

// odds tells chains that are no bricks, each by one thing alone that makes it none, beside a brick of such a form and bytes.
func odds(gen int, data string) []odd {
	good := laid(gen, data)
	var l []odd
	for _, tag := range []int{0, 2, 3, 4, 5, 6, 7, 11, 13, 129, 200} {
		l = append(l, odd{gen, tag, good})
	}
	add := func(texts ...string) {
		for _, b := range texts {
			l = append(l, odd{gen, 1, b})
		}
	}
	for other := 1; other <= 3; other++ {
		if (other == 1) != (gen == 1) {
			add(laid(other, data))                             // another form's print
			add(string([]byte{laid(other, "")[0]}) + good[1:]) // that of its own, told as another form's
			add(good[:1] + laid(other, data)[1:])              // another form's, told as its own
			l = append(l, odd{other, 1, good})
		}
	}
	for _, kind := range []byte{0, 3, 4, 9, 127, 128, 255} {
		add(string([]byte{kind}) + good[1:])
	}
	for n := range 34 {
		add(good[:n]) // too few bytes for a print, and a print alone
	}
	add(laid(gen, "")) // no byte, and the print of none
	for n := range data {
		add(good[:33+n]) // a byte too few, and more
	}
	for _, b := range []string{zero, "x", data, strings.Repeat("y", most)} {
		add(good+b, good[:33]+b+data, b+good)
	}
	add(lay(printOf(gen, data+"x"))+data, lay(printOf(gen, data[1:]))+data, lay(printOf(gen, ""))+data, lay(printOf(gen, good))+data)
	add(good[:1]+good[2:]+"x", good[1:], good[1:]+good[:1], data+good[:33], strings.Repeat(zero, len(good)))
	for n := range good {
		for _, by := range []byte{1, 128, 255} {
			add(sample.Changed(good, n, by))
		}
	}
	return slices.DeleteFunc(l, func(o odd) bool { return o.tag == 1 && o.data == good && o.gen == gen })
}

// pieces tells bytes that may be a piece.
func pieces() []string {
	return []string{"a", "abc", bytes(33), bytes(64), bytes(most - 1), bytes(most)}
}

func TestP1601Broken(t *testing.T) {
	for gen := 1; gen <= 3; gen++ {
		for _, data := range pieces() {
			d, k := formatted(t, api.Least)
			wantPut(t, "ahead of it", k, gen, 2, data)
			m := k.Mark()
			for _, o := range odds(gen, data) {
				if at, e := chain.Put(k, o.gen, o.tag, o.data); at < 3 || e != api.OK {
					t.Fatalf("chain.Put: %d, %d", at, e)
				}
				at := 2 + sectors(o.data) // of a chain the first sector is the last one that is taken
				wantPut(t, "behind it", k, gen, at+1, data)
				wantNone(t, "no brick", d, k, at, api.ErrBroken)
				wantBrick(t, "ahead of it", k, 2, piece(gen, 1, data))
				wantBrick(t, "behind it", k, at+1, piece(gen, 1, data))
				if t.Failed() {
					t.Fatalf("the form %d, the tag %d, %x", o.gen, o.tag, o.data)
				}
				k.Back(m)
			}
		}
	}
}

// sectors tells how many sectors a chain of bytes has.
func sectors(b string) int { return max(1, (len(b)+part-1)/part) }

// TestP1601TooLong has chains of more bytes than a piece may have, each with the print of them, up to the longest chain.
func TestP1601TooLong(t *testing.T) {
	d, k := formatted(t, 200)
	m := k.Mark()
	for gen := 1; gen <= 3; gen++ {
		for _, n := range append(upTo(most+1, 220), 403, 439, 440, 1200, 9406, 9407) {
			at, e := chain.Put(k, gen, 1, laid(gen, bytes(n)))
			want(t, "chain.Put", api.OK, e)
			wantNone(t, "too many bytes", d, k, at, api.ErrBroken)
			k.Back(m)
		}
	}
}

// TestP1601Judged has chains of all lengths in a sector, of each form with each form's print, of some tags and kinds: just those are bricks that should be.
func TestP1601Judged(t *testing.T) {
	_, k := formatted(t, api.Least)
	m := k.Mark()
	good := 0
	for gen := 1; gen <= 3; gen++ {
		for by := 1; by <= 3; by++ {
			for n := range part - 33 + 1 {
				b := laid(by, bytes(n))
				for _, tag := range []int{0, 1, 2, 200} {
					for kind := range 4 {
						at, e := chain.Put(k, gen, tag, string([]byte{byte(kind)})+b[1:])
						want(t, "chain.Put", api.OK, e)
						if tag == 1 && kind == min(gen, 2) && kind == min(by, 2) && n >= 1 && n <= most {
							good++
							wantRead(t, "judged", k, at, piece(gen, 1, bytes(n)))
						} else {
							wantNothing(t, "judged", k, at, api.ErrBroken)
						}
						k.Back(m)
					}
				}
			}
		}
	}
	if good != 5*most {
		t.Errorf("%d good ones", good)
	}
}

// TestP1601BrokenAndCommitted has chains that are no bricks on the disk, too.
func TestP1601BrokenAndCommitted(t *testing.T) {
	for gen := 1; gen <= 3; gen++ {
		d, k := formatted(t, api.Sectors)
		l := slices.DeleteFunc(odds(gen, "abcdefgh"), func(o odd) bool { return sectors(o.data) > 1 })
		for n, o := range l {
			at, e := chain.Put(k, o.gen, o.tag, o.data)
			if at != 2+n || e != api.OK {
				t.Fatalf("chain.Put: %d, %d", at, e)
			}
			if n%100 == 99 || n == len(l)-1 {
				want(t, "Sync", api.OK, k.Sync())
			}
		}
		k = opened(t, d)
		for n, o := range l {
			wantNothing(t, "no brick", k, 2+n, api.ErrBroken)
			if t.Failed() {
				t.Fatalf("the form %d, the tag %d, %x", o.gen, o.tag, o.data)
			}
		}
		wantDirty(t, "no brick", k)
	}
}

// TestP1601LaterSector has chains of several sectors, in the later ones of which there stands what would be a brick.
func TestP1601LaterSector(t *testing.T) {
	for gen := 1; gen <= 3; gen++ {
		for _, tag := range []int{1, 2, 7} {
			d, k := formatted(t, api.Least)
			first := laid(gen, bytes(part-33))
			for n, data := range []string{"a", bytes(most), "abc"} {
				b := first + strings.Repeat(first, n) + laid(gen, data)
				if n == 2 {
					b += strings.Repeat(zero, part-len(laid(gen, data))) + "x"
				}
				at, e := chain.Put(k, gen, tag, b)
				want(t, "chain.Put", api.OK, e)
				l, e := chain.Sectors(k, at)
				want(t, "chain.Sectors", api.OK, e)
				if len(l) != sectors(b) {
					t.Errorf("%d sectors", len(l))
				}
				for _, at := range l {
					wantNone(t, "a sector of a longer chain", d, k, at, api.ErrBroken)
				}
			}
		}
	}
}

// TestP1601NextPlace has a first sector whose next one is behind all home sectors: that is chain.Get's error, whatever else is wrong.
func TestP1601NextPlace(t *testing.T) {
	d, k := formatted(t, api.Least)
	want(t, "Keep", api.OK, k.Keep(2, 3))
	for gen := 1; gen <= 3; gen++ {
		for _, tag := range []int{1, 7} {
			for _, next := range []int{fewest, 1000, 65535} {
				want(t, "Set", api.OK, k.Set(2, sector(gen, tag, 1, next, laid(gen, bytes(part-33)))))
				wantNone(t, "no next place", d, k, 2, api.ErrRange)
			}
			for _, next := range []int{1, 2, 3, fewest - 1} {
				want(t, "Set", api.OK, k.Set(2, sector(gen, tag, 1, next, laid(gen, bytes(part-33)))))
				wantNone(t, "no next sector", d, k, 2, api.ErrBroken)
			}
		}
		b := laid(gen, bytes(most))
		want(t, "Set", api.OK, k.Set(2, sector(gen, 1, 1, 3, b)))
		wantNone(t, "a next one of what is not full", d, k, 2, api.ErrBroken)
		want(t, "Set", api.OK, k.Set(2, sector(4, 1, 1, 0, b)))
		wantNone(t, "no form", d, k, 2, api.ErrBroken)
		want(t, "Set", api.OK, k.Set(2, sector(0, 1, 1, 0, b)))
		wantNone(t, "no form", d, k, 2, api.ErrBroken)
	}
}

// TestP1601Spoilt spoils each byte of one brick's sector, on the desk and on the disk: the bricks beside it are as they were.
func TestP1601Spoilt(t *testing.T) {
	d, k := formatted(t, api.Least)
	for at := 2; at < 9; at++ {
		wantPut(t, "a brick", k, 1+at%3, at, bytes(18*at-20))
	}
	want(t, "Sync", api.OK, k.Sync())
	good := k.Mark()
	beside := func(k *desk.Desk, spoilt int) {
		t.Helper()
		for at := 2; at < 9; at++ {
			if at != spoilt {
				wantBrick(t, "beside it", k, at, piece(1+at%3, 1, bytes(18*at-20)))
			}
		}
	}
	for _, spoilt := range []int{2, 5, 8} {
		s, _ := k.Get(spoilt)
		other, _ := k.Get(spoilt/2 + 2)
		plain, _ := crc.Seal(api.Sector)
		no := []string{sample.Full(0), sample.Full(255), bytes(api.Sector), plain, s[1:] + s[:1], s[:128] + other[128:], other[:128] + s[128:], s[:252] + other[252:]}
		for n := range api.Sector {
			no = append(no, sample.Changed(s, n, 1), sample.Changed(s, n, 128), sample.Changed(s, n, 255))
		}
		for n, b := range no {
			want(t, "Set", api.OK, k.Set(spoilt, b))
			wantNone(t, "spoilt on the desk", d, k, spoilt, api.ErrBroken)
			if n%16 > 0 {
				continue
			}
			beside(k, spoilt)
			c := d.Twin()
			want(t, "disk.Write", api.OK, c.Write(api.Write{At: 111 + spoilt, Data: b}))
			onDisk := opened(t, c)
			wantNone(t, "spoilt on the disk", c, onDisk, spoilt, api.ErrBroken)
			beside(onDisk, spoilt)
			beside(onDisk, spoilt)
		}
		k.Back(good)
		beside(k, 0)
	}
}

// P1601: Use.

// wantBeyond asks that Use of a brick that is used n times tells ErrRange below 0 and above 60,000, and changes nothing.
func wantBeyond(t *testing.T, d *disk.Disk, k *desk.Desk, at, n int) {
	t.Helper()
	kept(t, "beyond", d, k, func() {
		for _, by := range sample.Beyond(n) {
			wantUse(t, "beyond", k, at, by, 0, api.ErrRange)
		}
	})
}

func TestP1601Use(t *testing.T) {
	for gen := 1; gen <= 3; gen++ {
		for _, n := range []int{1, 64, most} {
			d, k := formatted(t, api.Least)
			wantPut(t, "ahead of it", k, gen, 2, bytes(n))
			wantPut(t, "it", k, gen, 3, bytes(n))
			wantPut(t, "behind it", k, gen, 4, bytes(n))
			want(t, "Sync", api.OK, k.Sync())
			refs := 1
			wantBeyond(t, d, k, 3, 1)
			for _, by := range sample.Uses() {
				refs += by
				witness.Untouched(t, "Use", d, func() { wantUse(t, "Use", k, 3, by, refs, api.OK) })
				wantBrick(t, "Use", k, 3, piece(gen, refs, bytes(n)))
				if by != 0 {
					wantDirty(t, "Use", k, 3)
				}
				wantBeyond(t, d, k, 3, refs)
			}
			if refs != 60000 {
				t.Errorf("%d at last", refs)
			}
			wantUsed(t, "Use", k, upTo(0, 5)...)
			want(t, "Sync", api.OK, k.Sync())
			k = opened(t, d)
			wantBeyond(t, d, k, 3, 60000)
			wantBrick(t, "opened", k, 3, piece(gen, 60000, bytes(n)))
			wantBrick(t, "ahead of it", k, 2, piece(gen, 1, bytes(n)))
			wantBrick(t, "behind it", k, 4, piece(gen, 1, bytes(n)))
		}
	}
}

// TestP1601UseOneByOne goes up from 59,500 and down from 500 one by one.
func TestP1601UseOneByOne(t *testing.T) {
	_, k := formatted(t, api.Least)
	wantPut(t, "Put", k, 3, 2, "abc")
	wantUse(t, "up", k, 2, 59499, 59500, api.OK)
	for n := 59501; n <= 60000; n++ {
		wantUse(t, "up", k, 2, 1, n, api.OK)
	}
	wantUse(t, "above 60,000", k, 2, 1, 0, api.ErrRange)
	wantBrick(t, "above 60,000", k, 2, piece(3, 60000, "abc"))
	wantUse(t, "down", k, 2, -59500, 500, api.OK)
	for n := 499; n >= 0; n-- {
		wantUse(t, "down", k, 2, -1, n, api.OK)
	}
	wantUse(t, "below 0", k, 2, -1, 0, api.ErrRange)
	wantBrick(t, "below 0", k, 2, piece(3, 0, "abc"))
	wantUsed(t, "used by none", k, 0, 1, 2)
}

func TestP1601UseBack(t *testing.T) {
	_, k := formatted(t, api.Least)
	wantPut(t, "Put", k, 2, 2, "abc")
	m := k.Mark()
	wantUse(t, "Use", k, 2, 7, 8, api.OK)
	k.Back(m)
	wantUse(t, "Back", k, 2, 1, 2, api.OK)
	want(t, "Sync", api.OK, k.Sync())
	m = k.Mark()
	wantUse(t, "Use", k, 2, -2, 0, api.OK)
	wantDirty(t, "Use", k, 2)
	k.Back(m)
	wantBrick(t, "Back", k, 2, piece(2, 2, "abc"))
}

// P1601: Drop.

// TestP1601Drop drops bricks, however often they are used.
func TestP1601Drop(t *testing.T) {
	for gen := 1; gen <= 3; gen++ {
		d, k := formatted(t, api.Least)
		wantPut(t, "another one", k, gen, 2, "abc")
		want(t, "Sync", api.OK, k.Sync())
		empty := k.Mark()
		for n, refs := range []int{1, 0, 2, 3, 255, 59999, 60000} {
			wantPut(t, "Put", k, gen, 3, bytes(most-n))
			wantPut(t, "one behind it", k, gen, 4, bytes(most-n))
			wantUse(t, "Use", k, 3, refs-1, refs, api.OK)
			witness.Untouched(t, "Drop", d, func() { drop(t, "Drop", k, 3) })
			wantUsed(t, "Drop", k, 0, 1, 2, 4)
			wantDirty(t, "Drop", k, 1, 4)
			wantNone(t, "twice", d, k, 3, api.ErrBroken)
			wantBrick(t, "another one", k, 2, piece(gen, 1, "abc"))
			wantBrick(t, "one behind it", k, 4, piece(gen, 1, bytes(most-n)))
			k.Back(empty)
		}
	}
}

// TestP1601DropCommitted drops a brick that was committed: its bytes stand in the sector until that is written again, but it is not in use, so that desk.Drop and desk.Set refuse it.
func TestP1601DropCommitted(t *testing.T) {
	for gen := 1; gen <= 3; gen++ {
		d, k := formatted(t, api.Least)
		b := piece(gen, 3, bytes(90))
		wantPut(t, "Put", k, gen, 2, b.Data)
		wantUse(t, "Use", k, 2, 2, 3, api.OK)
		want(t, "Sync", api.OK, k.Sync())
		drop(t, "committed", k, 2)
		refused := func() {
			t.Helper()
			want(t, "twice", api.ErrRange, brick.Drop(k, 2))
			wantUse(t, "not in use", k, 2, 0, 0, api.ErrRange)
			wantUse(t, "not in use", k, 2, 1, 0, api.ErrRange)
			wantUse(t, "not in use", k, 2, -4, 0, api.ErrRange)
			wantRead(t, "not in use", k, 2, b)
		}
		wantUsed(t, "Drop", k, 0, 1)
		wantDirty(t, "Drop", k, 1)
		kept(t, "dropped", d, k, refused)
		wantBrick(t, "not committed", opened(t, d), 2, b)
		want(t, "Sync", api.OK, k.Sync())
		kept(t, "dropped, and committed", d, k, refused)
		k = opened(t, d)
		wantUsed(t, "committed", k, 0, 1)
		kept(t, "opened", d, k, refused)
		wantPut(t, "in its place", k, gen%3+1, 2, "abc")
	}
}

// TestP1601WhereAllBegins has a brick in home sector 0, which may be set but not given back: what desk.Drop tells is told.
func TestP1601WhereAllBegins(t *testing.T) {
	d, k := formatted(t, api.Least)
	stand(t, k, 0, piece(1, 5, "abc"))
	wantRead(t, "home sector 0", k, 0, piece(1, 5, "abc"))
	kept(t, "home sector 0", d, k, func() { want(t, "Drop", api.ErrRange, brick.Drop(k, 0)) })
	wantUse(t, "home sector 0", k, 0, 1, 6, api.OK)
	wantBrick(t, "home sector 0", k, 0, piece(1, 6, "abc"))
}

// P1601: reading changes nothing; what is handed in, and what is answered.

func TestP1601ReadingKeeps(t *testing.T) {
	d, k := formatted(t, api.Least)
	wantPut(t, "committed", k, 1, 2, "abc")
	want(t, "Sync", api.OK, k.Sync())
	wantPut(t, "on the desk", k, 3, 3, bytes(most))
	kept(t, "Get, Kind", d, k, func() {
		for range 3 {
			wantBrick(t, "committed", k, 2, piece(1, 1, "abc"))
			wantBrick(t, "on the desk", k, 3, piece(3, 1, bytes(most)))
			brick.Kind(1)
		}
	})
}

// text tells bytes as a text that changes with them.
func text(b []byte) string { return unsafe.String(unsafe.SliceData(b), len(b)) }

// TestP1601WhatIsHandedIn asks that neither texts nor the list of them, nor its room, are written into, and that none is kept.
func TestP1601WhatIsHandedIn(t *testing.T) {
	_, k := formatted(t, api.Least)
	for gen := 1; gen <= 3; gen++ {
		for _, cut := range [][]int{{0, most}, {1, most}, {0, 1}, {5, 60, 60, 61, most}} {
			b := []byte(bytes(most))
			was := string(b[cut[0]:cut[len(cut)-1]])
			var l []string
			for n := range cut[1:] {
				l = append(l, text(b[cut[n]:cut[n+1]]))
			}
			l = append(l, "behind", "far behind")
			had := strings.Join(l, "|")
			given := l[:len(l)-2]
			wantPut(t, "a list with room", k, gen, 2, given...)
			wantPut(t, "a list with room, again", k, gen, 3, given...)
			wantNoPut(t, "no form", k, 4, api.ErrArg, given...)
			if strings.Join(l, "|") != had || string(b) != bytes(most) {
				t.Errorf("what was handed in, or its room, is now %q", l)
			}
			clear(b)
			clear(l)
			for range 2 {
				wantBrick(t, "handed in, and changed", k, 2, piece(gen, 1, was))
				wantBrick(t, "handed in, and changed", k, 3, piece(gen, 1, was))
				want(t, "Sync", api.OK, k.Sync())
			}
			drop(t, "handed in, and changed", k, 2, 3)
		}
	}
}

// shares tells whether two texts have a byte of memory in common.
func shares(a, b string) bool {
	from, other := uintptr(unsafe.Pointer(unsafe.StringData(a))), uintptr(unsafe.Pointer(unsafe.StringData(b)))
	return from < other+uintptr(len(b)) && other < from+uintptr(len(a))
}

// TestP1601AnswersStay asks that what was answered is as it was behind later calls, and shares no memory with another answer.
func TestP1601AnswersStay(t *testing.T) {
	_, k := formatted(t, api.Least)
	for gen := 1; gen <= 3; gen++ {
		for _, n := range []int{1, 64, most} {
			data := bytes(n)
			wantPut(t, "Put", k, gen, 2, data)
			one, _ := brick.Get(k, 2)
			two, _ := brick.Get(k, 2)
			s, _ := k.Get(2)
			for _, a := range []string{one.Data, one.Print.Sum} {
				for _, b := range []string{two.Data, two.Print.Sum, data, s} {
					if shares(a, b) {
						t.Errorf("an answer of Get shares its memory")
					}
				}
			}
			wantUse(t, "Use", k, 2, 8, 9, api.OK)
			drop(t, "Drop", k, 2)
			wantPut(t, "Put", k, gen%3+1, 2, strings.Repeat("z", most))
			if one != piece(gen, 1, bytes(n)) || two != one {
				t.Errorf("answers behind later calls: %x, %x", one, two)
			}
			drop(t, "Drop", k, 2)
		}
	}
}

// P1601: a Desk that is nil, bad, or has no power.

func TestP1601NoDesk(t *testing.T) {
	for _, k := range []*desk.Desk{nil, {}} {
		for _, gen := range []int{0, 1, 2, 3, 4} {
			for _, l := range [][]string{nil, {""}, {"a"}, {"a", "bc"}, {bytes(most)}, {bytes(most), "x"}} {
				wantNoPut(t, "none", k, gen, api.ErrArg, l...)
			}
		}
		for _, at := range append(outside(fewest), 0, 1, 2, 28) {
			wantNothing(t, "none", k, at, api.ErrArg)
		}
	}
}

func TestP1601BadDesk(t *testing.T) {
	d, k := formatted(t, api.Least)
	wantPut(t, "committed", k, 1, 2, "abc")
	want(t, "Sync", api.OK, k.Sync())
	wantPut(t, "on the desk", k, 2, 3, bytes(most))
	wantUse(t, "on the desk", k, 2, 1, 2, api.OK)
	d.Arm(4)
	want(t, "Sync", api.ErrOff, k.Sync())
	for range 2 {
		for _, at := range append(outside(fewest), 0, 1, 2, 3, 4, 28) {
			wantNone(t, "bad", d, k, at, api.ErrOff)
		}
		kept(t, "bad", d, k, func() {
			for gen := 1; gen <= 3; gen++ {
				wantNoPut(t, "bad", k, gen, api.ErrOff, "a")
				wantNoPut(t, "bad", k, gen, api.ErrOff, sample.Single(bytes(most))...)
				for _, l := range wrongs() {
					wantNoPut(t, "ErrArg ahead of what stays", k, gen, api.ErrArg, l...)
				}
			}
			for _, gen := range noForms() {
				wantNoPut(t, "ErrArg ahead of what stays", k, gen, api.ErrArg, "a")
			}
		})
		d.Restore()
	}
	k = opened(t, d)
	wantUsed(t, "opened", k, 0, 1, 2)
	wantBrick(t, "opened", k, 2, piece(1, 1, "abc"))
}

// TestP1601NoPower has a disk without power: what is on the desk can be read and changed, the rest is ErrOff, which does not stay.
func TestP1601NoPower(t *testing.T) {
	d, k := formatted(t, api.Least)
	wantPut(t, "committed", k, 1, 2, "abc")
	wantPut(t, "committed", k, 1, 3, "def")
	want(t, "Sync", api.OK, k.Sync())
	wantUse(t, "on the desk", k, 3, 1, 2, api.OK)
	wantPut(t, "on the desk", k, 2, 4, bytes(most))
	d.Crash()
	wantNone(t, "not on the desk", d, k, 2, api.ErrOff)
	wantNone(t, "no home sector", d, k, fewest, api.ErrRange)
	wantBrick(t, "on the desk", k, 3, piece(1, 2, "def"))
	wantBrick(t, "on the desk", k, 4, piece(2, 1, bytes(most)))
	wantUse(t, "on the desk", k, 3, 1, 3, api.OK)
	wantPut(t, "without power", k, 3, 5, "a", "b")
	drop(t, "without power", k, 4)
	d.Restore()
	want(t, "Sync", api.OK, k.Sync())
	k = opened(t, d)
	wantUsed(t, "opened", k, 0, 1, 2, 3, 5)
	wantBrick(t, "opened", k, 2, piece(1, 1, "abc"))
	wantBrick(t, "opened", k, 3, piece(1, 3, "def"))
	wantBrick(t, "opened", k, 5, piece(3, 1, "ab"))
}

// P1601: behind a loss of power.

// worked tells a Desk of a disk on which a brick was put, one was used, and one was dropped.
func worked(t *testing.T, d *disk.Disk) *desk.Desk {
	t.Helper()
	k := opened(t, d)
	wantPut(t, "worked", k, 3, 4, bytes(50), bytes(60))
	wantUse(t, "worked", k, 2, 4, 5, api.OK)
	drop(t, "worked", k, 3)
	return k
}

// TestP1601Power lets the power go at each act of a Sync, and of the Open behind it: opened again the disk has all that was done to its bricks, or nothing.
func TestP1601Power(t *testing.T) {
	first, k := formatted(t, api.Least)
	wantPut(t, "first", k, 1, 2, bytes(most))
	wantPut(t, "first", k, 2, 3, bytes(40))
	want(t, "Sync", api.OK, k.Sync())
	for n := range 15 {
		for _, keep := range choices(3) {
			d, told := broken(first, n, keep, func(d *disk.Disk) api.Errno { return worked(t, d).Sync() })
			if (told == api.OK) != (n >= 12) {
				t.Errorf("the power goes at %d: told %d", n, told)
			}
			for m := range 8 {
				for _, other := range choices(3) {
					c, _ := broken(d, m, other, desks.Open)
					k := opened(t, c)
					used := piece(1, 1, bytes(most))
					if k.Room().Used(4) {
						used.Refs = 5
						wantUsed(t, "as behind it", k, 0, 1, 2, 4)
						wantBrick(t, "as behind it", k, 4, piece(3, 1, bytes(50)+bytes(60)))
					} else {
						want(t, "as ahead of it", api.ErrOff, told)
						wantUsed(t, "as ahead of it", k, 0, 1, 2, 3)
						wantBrick(t, "as ahead of it", k, 3, piece(2, 1, bytes(40)))
						wantNothing(t, "not there at all", k, 4, api.ErrBroken)
					}
					wantBrick(t, "used", k, 2, used)
					wantDirty(t, "opened", k)
				}
			}
		}
	}
}

// TestP1601PowerMany does so with as many bricks as one Sync may write, in the places of others.
func TestP1601PowerMany(t *testing.T) {
	first, k := formatted(t, 300)
	for at := 2; at < 110; at++ {
		wantPut(t, "first", k, 1+at%3, at, bytes(at))
	}
	want(t, "Sync", api.OK, k.Sync())
	for n := range 228 {
		for m, keep := range sample.Somes(110) {
			d, told := broken(first, n, keep, func(d *disk.Disk) api.Errno {
				k := opened(t, d)
				drop(t, "worked", k, upTo(2, 110)...)
				for at := 2; at < 111; at++ {
					if got, e := brick.Put(k, 1+at%2, bytes(at), "x"); got != at || e != api.OK {
						t.Errorf("Put: %d, %d", got, e)
					}
				}
				return k.Sync()
			})
			if (told == api.OK) != (n >= 226) {
				t.Errorf("the power goes at %d: told %d", n, told)
			}
			d, _ = broken(d, (7*n+19*m)%114, sample.Somes(110)[(n+m)%6], desks.Open)
			k := opened(t, d)
			behind := k.Room().Used(110)
			if behind {
				wantUsed(t, "as behind it", k, upTo(0, 111)...)
				wantRead(t, "as behind it", k, 110, piece(1, 1, bytes(110)+"x"))
			} else {
				want(t, "as ahead of it", api.ErrOff, told)
				wantUsed(t, "as ahead of it", k, upTo(0, 110)...)
				wantNothing(t, "not there at all", k, 110, api.ErrBroken)
			}
			for at := 2; at < 110; at++ {
				b := piece(1+at%3, 1, bytes(at))
				if behind {
					b = piece(1+at%2, 1, bytes(at)+"x")
				}
				wantRead(t, "all of it, or nothing", k, at, b)
			}
		}
	}
}

// TestP1601NotSynced lets the power go ahead of a Sync: nothing that was done is there.
func TestP1601NotSynced(t *testing.T) {
	d, k := formatted(t, api.Least)
	wantPut(t, "committed", k, 1, 2, "abc")
	want(t, "Sync", api.OK, k.Sync())
	for _, do := range []func(){
		func() { wantPut(t, "Put", k, 1, 3, "def") },
		func() { wantUse(t, "Use", k, 2, 3, 4, api.OK) },
		func() { drop(t, "Drop", k, 2) },
	} {
		do()
		d.Crash(1, 1, 1, 1, 1, 1, 1, 1)
		d.Restore()
		k = opened(t, d)
		wantUsed(t, "not synced", k, 0, 1, 2)
		wantBrick(t, "not synced", k, 2, piece(1, 1, "abc"))
		wantNothing(t, "not synced", k, 3, api.ErrBroken)
	}
}

// P1601: all together.

// run is a Desk, its disk, and lists of its bricks by their places: as they are, and as they were synced.
type run struct {
	t           *testing.T
	d           *disk.Disk
	k           *desk.Desk
	now, synced map[int]brick.Brick
	sample.Draw
}

// used tells the sectors in use.
func (r *run) used() []int {
	return slices.Concat([]int{0, 1}, r.places())
}

// places tells the places of all bricks, rising.
func (r *run) places() []int { return slices.Sorted(maps.Keys(r.now)) }

// texts tells texts, cut anywhere, that may be a piece, or now and then have too few bytes or too many.
func (r *run) texts() []string {
	b := bytes(r.One(0, 1, 2, 64, 127, 128, 129, 1+r.Below(128), 1+r.Below(128), r.Below(300)))
	var l []string
	for range r.Below(5) {
		n := r.Below(len(b) + 1)
		l, b = append(l, b[:n]), b[n:]
	}
	return append(l, b)
}

// put puts something, now and then what can't be put.
func (r *run) put() {
	gen := r.One(1, 2, 3, 1, 2, 3, 1, 2, 3, 0, 4)
	l := r.texts()
	b := strings.Join(l, "")
	at := 2
	for ; at < r.d.Size()-111; at++ {
		if _, ok := r.now[at]; !ok {
			break
		}
	}
	switch {
	case gen < 1 || gen > 3 || b == "" || len(b) > most:
		wantNoPut(r.t, "run", r.k, gen, api.ErrArg, l...)
	case at == r.d.Size()-111:
		wantNoPut(r.t, "run", r.k, gen, api.ErrFull, l...)
	default:
		wantPut(r.t, "run", r.k, gen, at, l...)
		r.now[at] = piece(gen, 1, b)
	}
}

// use uses a brick more, or less.
func (r *run) use(at int) {
	b := r.now[at]
	by := r.One(0, 1, -1, 2, -2, 1000, -1000, 60000-b.Refs, 60001-b.Refs, -b.Refs, -b.Refs-1, math.MaxInt, math.MinInt)
	if by < -b.Refs || by > 60000-b.Refs {
		wantUse(r.t, "run", r.k, at, by, 0, api.ErrRange)
		return
	}
	b.Refs += by
	wantUse(r.t, "run", r.k, at, by, b.Refs, api.OK)
	r.now[at] = b
}

// drop drops a brick.
func (r *run) drop(at int) {
	drop(r.t, "run", r.k, at)
	delete(r.now, at)
}

// back does something, and goes back to a Mark of before it.
func (r *run) back(at int) {
	m, was := r.k.Mark(), maps.Clone(r.now)
	r.put()
	r.use(at)
	r.drop(at)
	r.put()
	r.k.Back(m)
	r.now = was
}

// sync lets the power go in a Sync now and then; the disk is opened again.
func (r *run) sync() {
	k, e := desks.Sync(r.t, r.d, r.k, &r.Draw)
	r.k = k
	if e == api.OK || e == api.ErrOff && r.same() {
		r.synced = maps.Clone(r.now)
	} else {
		r.now = maps.Clone(r.synced) // all that is not synced is gone
	}
}

// same tells whether the Desk has just the bricks of now.
func (r *run) same() bool {
	for at, b := range r.now {
		if got, e := brick.Get(r.k, at); got != b || e != api.OK {
			return false
		}
	}
	return slices.Equal(r.k.Room().All(), r.used())
}

// step does something.
func (r *run) step() {
	l := r.places()
	switch n := r.Below(20); {
	case n < 9 || len(l) == 0:
		r.put()
	case n < 13:
		r.use(r.One(l...))
	case n < 16:
		r.drop(r.One(l...))
	case n < 18:
		r.back(r.One(l...))
	case n < 19:
		r.sync()
	}
}

// TestP1601Run holds a Desk of many bricks against a list of them.
func TestP1601Run(t *testing.T) {
	for _, n := range []int{api.Least, 170, 300} {
		d, k := formatted(t, n)
		r := &run{t, d, k, map[int]brick.Brick{}, map[int]brick.Brick{}, sample.Draw(n)}
		for i := range 2000 {
			r.step()
			wantUsed(t, "run", r.k, r.used()...)
			for at, b := range r.now {
				wantRead(t, "run", r.k, at, b)
			}
			if t.Failed() {
				t.Fatalf("of %d sectors, step %d", n, i)
			}
		}
	}
}
