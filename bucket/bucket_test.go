package bucket_test

import (
	"math"
	"math/big"
	"slices"
	"strings"
	"testing"

	"masonry/api"
	"masonry/bucket"
	"masonry/chain"
	"masonry/desk"
	"masonry/entries"
	"masonry/sample"
	"masonry/witness"
)

const (
	part = 236 // bytes of a chain in a sector
	full = 269 // entries of a bucket, at most: 40 sectors of such a part have 9,440 bytes, an entry has 35
)

// table is how this package keeps entries.
var table = entries.Kind{
	Add: bucket.Add, Drop: bucket.Drop, Find: bucket.Find, All: bucket.All,
	Check: bucket.Check, Sectors: bucket.Sectors, Tag: 3, Shape: shape,
}

var (
	want, kept = witness.Want, witness.Kept
	lay, low   = entries.Lay, entries.Low
	of, mixed  = entries.Of, entries.Mixed
)

// slot tells the bucket of a hash in another way than the document: by the least power of two that is not below n, and by half of it of what is beyond n.
func slot(hash, n int) int {
	p := 1
	for p < n {
		p *= 2
	}
	s := hash % p
	if s >= n {
		s -= p / 2
	}
	return s
}

// number tells how many buckets there are, counted.
func number(count int) int {
	n := 1
	for room := 4; room < count; room += 4 {
		n++
	}
	return n
}

// parts tells which of entries stand in each bucket.
func parts(l []api.Entry) [][]api.Entry {
	p := make([][]api.Entry, number(len(l)))
	for _, x := range entries.Sorted(l...) {
		n := slot(entries.Hash(x.Print), len(p))
		p[n] = append(p[n], x)
	}
	return p
}

// shape asks that the chains of a table are just as the document says.
func shape(t witness.T, what string, k *desk.Desk, gen, root int, l []api.Entry) []int {
	t.Helper()
	if len(l) == 0 {
		return nil
	}
	c, _ := chain.Get(k, root)
	p := parts(l)
	should := 2 + 2*len(p)
	if len(c.Data) != should {
		t.Fatalf("%s: a root of %d bytes, not %d, of %d entries", what, len(c.Data), should, len(l))
	}
	all := entries.SectorsOf(t, what, k, root)
	var places []int
	for n, x := range p {
		place := int(c.Data[2+2*n]) + 256*int(c.Data[3+2*n])
		places = append(places, place)
		if (place == 0) != (len(x) == 0) {
			t.Errorf("%s: bucket %d of %d, that has %d entries, stands at %d", what, n, len(p), len(x), place)
		}
		if place != 0 {
			entries.WantChain(t, what, k, place, gen, 13, lay(x...))
			all = append(all, entries.SectorsOf(t, what, k, place)...)
		}
	}
	entries.WantChain(t, what, k, root, gen, 3, low(len(l))+low(places...))
	return all
}

// P1701: Slot.

func TestP1701Slot(t *testing.T) {
	for _, c := range []struct{ hash, n, slot int }{
		{5, 3, 1}, {0, 1, 0}, {1, 1, 0}, {65535, 1, 0}, {0, 2, 0}, {1, 2, 1}, {2, 2, 0}, {3, 2, 1},
		{0, 3, 0}, {1, 3, 1}, {2, 3, 2}, {3, 3, 1}, {4, 3, 0}, {6, 3, 2}, {7, 3, 1}, {7, 4, 3}, {4, 5, 4}, {5, 5, 1}, {12, 5, 4}, {13, 5, 1},
		{8, 7, 0}, {7, 7, 3}, {7, 8, 7}, {15, 8, 7}, {15, 15, 7}, {15, 16, 15}, {65535, 375, 255}, {374, 375, 374}, {375, 375, 119}, {65535, 65535, 32767}, {65535, 65536, 65535},
	} {
		if got := bucket.Slot(c.hash, c.n); got != c.slot {
			t.Errorf("Slot(%d, %d): %d, not %d", c.hash, c.n, got, c.slot)
		}
	}
}

// TestP1701SlotAll has each hash, and all numbers of buckets that there may be.
func TestP1701SlotAll(t *testing.T) {
	for n := 1; n <= 400; n++ {
		for hash := range 1 << 16 {
			got := bucket.Slot(hash, n)
			if got != slot(hash, n) || got < 0 || got >= n {
				t.Fatalf("Slot(%d, %d): %d, not %d", hash, n, got, slot(hash, n))
			}
		}
	}
}

// TestP1701SlotOneByOne asks that of each further bucket the hashes come from one other one alone.
func TestP1701SlotOneByOne(t *testing.T) {
	for n := 1; n <= 400; n++ {
		from := map[int]int{}
		for hash := range 1 << 16 {
			was, is := bucket.Slot(hash, n), bucket.Slot(hash, n+1)
			if is == n {
				from[was]++
			} else if is != was {
				t.Fatalf("Slot(%d, %d): %d, and %d of one more", hash, n, was, is)
			}
		}
		if len(from) != 1 {
			t.Errorf("the bucket %d comes from %v", n, from)
		}
	}
}

// slotBig tells the bucket of any hash by numbers of any length.
func slotBig(hash, n int) int {
	if n < 1 {
		return 0
	}
	m, h := big.NewInt(1), big.NewInt(int64(hash))
	for twice := big.NewInt(2); twice.Cmp(big.NewInt(int64(n))) <= 0; twice = new(big.Int).Mul(m, big.NewInt(2)) {
		m = twice
	}
	s := new(big.Int).Mod(h, new(big.Int).Mul(m, big.NewInt(2)))
	if s.Cmp(big.NewInt(int64(n))) >= 0 {
		s.Mod(h, m)
	}
	return int(s.Int64())
}

func TestP1701SlotEdges(t *testing.T) {
	numbers := append(sample.Extremes(), 0, 1, -1, -2, -5, 3, 5, 7, 65535, 65536, 375, 6<<60, math.MinInt/2, math.MaxInt/2)
	for k := range 63 {
		p := 1 << k
		numbers = append(numbers, p-1, p, p+1, -p, p+p/2, p/3)
	}
	for _, n := range numbers {
		for _, hash := range numbers {
			got := bucket.Slot(hash, n)
			if got != slotBig(hash, n) || got < 0 || n > 0 && got >= n {
				t.Errorf("Slot(%d, %d): %d, not %d", hash, n, got, slotBig(hash, n))
			}
		}
	}
}

// P1701: how many buckets there are, and what stands in each.

// TestP1701Buckets goes over each number of entries at which a bucket comes, or goes.
func TestP1701Buckets(t *testing.T) {
	for gen := 1; gen <= 3; gen++ {
		h := table.Empty(t, 200, gen)
		for n, x := range mixed(70) {
			h.Adds("up", x)
			c, _ := chain.Get(h.Desk, h.Root)
			if got := (len(c.Data) - 2) / 2; got != n/4+1 || c.Data[:2] != low(n+1) {
				t.Errorf("%d buckets of %d entries", got, n+1)
			}
		}
		for n := 69; n >= 1; n-- {
			h.Drops("down", h.List[n*37%len(h.List)])
			c, _ := chain.Get(h.Desk, h.Root)
			if got := (len(c.Data) - 2) / 2; got != (n-1)/4+1 || c.Data[:2] != low(n) {
				t.Errorf("%d buckets of %d entries", got, n)
			}
		}
		h.Drops("the last one", h.List...)
		witness.WantUsed(t, "none", h.Desk, 0, 1)
	}
}

// TestP1701Written holds a table against written-out bytes.
func TestP1701Written(t *testing.T) {
	h := table.Empty(t, api.Least, 2)
	p := strings.Repeat("p", 16)
	h.Adds("five", of(1, 0x102, 0, 7), of(1, 0x103, 0, 0x708), of(2, 0x102, 0, 7), of(1, 0x102, 0, 3), of(1, 0x4, 0, 1))
	root, e := chain.Get(h.Desk, h.Root)
	if e != api.OK || len(root.Data) != 6 || root.Data[:2] != "\x05\x00" || root.Tag != 3 || root.Gen != 2 {
		t.Fatalf("the root: %x, %d", root, e)
	}
	first := "\x01\x02\x01\x00\x00" + p + strings.Repeat("\x00", 12)
	even := "\x01\x04\x00\x00\x00" + p + strings.Repeat("\x00", 12) + "\x01\x00"
	entries.WantChain(t, "even", h.Desk, int(root.Data[2]), 2, 13, first+"\x03\x00"+first+"\x07\x00"+even+"\x02\x02\x01\x00\x00"+p+strings.Repeat("p", 12)+"\x07\x00")
	entries.WantChain(t, "odd", h.Desk, int(root.Data[4]), 2, 13, "\x01\x03\x01\x00\x00"+p+strings.Repeat("\x00", 12)+"\x08\x07")
}

// TestP1701Empty has entries of one hash: all buckets but one are empty, and stand nowhere, while others come beside it.
func TestP1701Empty(t *testing.T) {
	for n, hash := range []int{0, 1, 2, 5, 31, 65535} {
		h := table.Empty(t, 160, 1+n%3)
		for _, x := range entries.OneHash(1, hash, 70) {
			h.Adds("one bucket", x)
		}
		h.Adds("others", mixed(8)...)
		for len(h.List) > 0 {
			h.Drops("down", h.List[:min(3, len(h.List))]...)
		}
	}
}

// P1702.

func TestP1702OneByOne(t *testing.T)  { table.AskSteps(t) }
func TestP1702AtOnce(t *testing.T)    { table.AskAtOnce(t) }
func TestP1702NoEntries(t *testing.T) { table.AskNone(t) }
func TestP1702Most(t *testing.T)      { table.AskMost(t) }
func TestP1702ManySteps(t *testing.T) { table.AskManySteps(t) }
func TestP1702Wrong(t *testing.T)     { table.AskWrong(t) }
func TestP1702Forms(t *testing.T)     { table.AskForms(t) }
func TestP1702Places(t *testing.T)    { table.AskPlaces(t) }
func TestP1702Order(t *testing.T)     { table.AskOrder(t) }
func TestP1702Near(t *testing.T)      { table.AskNear(t) }
func TestP1702Find(t *testing.T)      { table.AskFind(t) }
func TestP1702Roots(t *testing.T)     { table.AskRoots(t) }
func TestP1702Stale(t *testing.T)     { table.AskStale(t) }
func TestP1702Desks(t *testing.T)     { table.AskDesks(t) }
func TestP1702NoPower(t *testing.T)   { table.AskNoPower(t) }
func TestP1702Room(t *testing.T)      { table.AskRoom(t) }
func TestP1702TillFull(t *testing.T)  { table.AskTillFull(t) }
func TestP1702Handed(t *testing.T)    { table.AskHanded(t) }
func TestP1702Answers(t *testing.T)   { table.AskAnswers(t) }
func TestP1702Back(t *testing.T)      { table.AskBack(t) }
func TestP1702Two(t *testing.T)       { table.AskTwo(t) }
func TestP1702Power(t *testing.T)     { table.AskPower(t) }
func TestP1702NotSynced(t *testing.T) { table.AskNotSynced(t) }
func TestP1702Run(t *testing.T)       { table.AskRun(t) }
func TestP1702Spoilt(t *testing.T)    { table.AskSpoilt(t, lists()) }
func TestP1702TwoForms(t *testing.T)  { table.AskTwoForms(t) }
func TestP1702Texts(t *testing.T)     { table.AskHandedTexts(t) }
func TestP1702Own(t *testing.T)       { table.AskAnswersOfTheirOwn(t) }
func TestP1702StaleHome(t *testing.T) { table.AskStaleAndCommitted(t) }

// TestP1702Shared has as many entries in a bucket as its chain holds, and one more.
func TestP1702Shared(t *testing.T) {
	for gen := 1; gen <= 3; gen++ {
		for _, l := range [][]api.Entry{entries.Alike(1, 9, full+31), entries.OneHash(2, 700, full+31)} {
			h := table.Empty(t, 300, gen)
			h.NoAdd("too many at once", api.ErrLong, l...)
			h.NoAdd("one too many at once", api.ErrLong, l[:full+1]...)
			h.Adds("all but one", l[:full-1]...)
			h.NoAdd("one too many", api.ErrLong, l[full-1:full+1]...)
			h.Adds("the last one", l[full-1])
			for range 2 {
				h.NoAdd("one too many", api.ErrLong, l[full])
				h.NoAdd("one too many, of others", api.ErrLong, append(mixed(9), l[full])...)
				h.NoAdd("ErrDup ahead of it", api.ErrDup, l[full], l[0])
				h.NoAdd("ErrArg ahead of it", api.ErrArg, l[full], entries.Wrong()[0])
				h.Adds("in other buckets", of(1, 8, 1, 1), of(1, 7, 1, 1))
				h.Drops("in other buckets", of(1, 8, 1, 1), of(1, 7, 1, 1))
			}
			h.Drops("one", l[5])
			h.Adds("another one", l[full])
			h.NoAdd("one too many", api.ErrLong, l[5])
			h.Drops("all", h.List...)
		}
	}
}

// TestP1702SharedAgain has two buckets that are to be one again: it would have too many.
func TestP1702SharedAgain(t *testing.T) {
	one, two, others := entries.OneHash(1, 20, 200), entries.OneHash(1, 84, 100), entries.OneHash(1, 3, 37) // 337 entries: 85 buckets, the last of which is that of two
	for gen := 1; gen <= 3; gen++ {
		h := table.Empty(t, 600, gen)
		h.Adds("at once", slices.Concat(one, two, others)...)
		for range 2 {
			h.NoDrop("too many would share a bucket", api.ErrLong, others[0])
			h.NoDrop("too many would share a bucket", api.ErrLong, others...)
			h.NoDrop("one too many would share a bucket", api.ErrLong, slices.Concat(others, two[:30])...)
			h.NoDrop("not there, ahead of it", api.ErrNone, append(slices.Clone(others), of(1, 3, 1, 2))...)
			want(t, "Sync", api.OK, h.Desk.Sync())
		}
		h.Drops("just as many as there may be", slices.Concat(others, two[:31])...)
		h.NoAdd("and one more", api.ErrLong, two[0])
		h.Adds("up again", slices.Concat(others, two[:31])...)
		h.Drops("all", h.List...)
	}
}

// TestP1702SharedOnTheWay has too many in a bucket on the way, and not any more behind the last entry.
func TestP1702SharedOnTheWay(t *testing.T) {
	one, two, others := entries.OneHash(1, 0, 150), entries.OneHash(1, 128, 150), entries.OneHash(2, 3, 250)
	for gen := 1; gen <= 3; gen++ {
		h := table.Empty(t, 600, gen)
		h.NoAdd("both, and no others", api.ErrLong, slices.Concat(one, two)...)
		h.Adds("both, and others behind them", slices.Concat(one, two, others)...)
		h.Drops("others first", slices.Concat(others[:240], one, two[:100])...)
	}
}

// stands tells what each bucket of a table has, and where it stands.
func stands(t *testing.T, h *entries.Held) map[string]int {
	t.Helper()
	l := map[string]int{}
	places := places(t, h.Desk, h.Root)
	for n, p := range parts(h.List) {
		if len(p) > 0 {
			l[lay(p...)] = places[n]
		}
	}
	return l
}

// wantStay asks that buckets that have what they had, when all was committed, stand where they did, and are not written.
func wantStay(t *testing.T, h *entries.Held, had map[string]int, most int) {
	t.Helper()
	dirty := h.Desk.Dirty()
	for data, place := range stands(t, h) {
		was, ok := had[data]
		if ok && was != place {
			t.Errorf("a bucket that stays stands at %d, not %d", place, was)
		}
		if ok == slices.Contains(dirty, place) {
			t.Errorf("the bucket at %d: it was so %t, and is written %t", place, ok, !ok)
		}
	}
	if len(dirty) > most {
		t.Errorf("%d sectors are written, and not at most %d", len(dirty), most)
	}
}

// TestP1702OnlyWhatChanges asks that a bucket that stays as it is stays where it is.
func TestP1702OnlyWhatChanges(t *testing.T) {
	for gen := 1; gen <= 3; gen++ {
		for _, all := range [][]api.Entry{entries.OnePlace(1, 9, 230), entries.OneHash(2, 2, 60), entries.Crowd(60)} {
			h := table.Empty(t, 300, gen)
			for _, x := range all[:len(all)-30] {
				h.Put("committed", x)
				if written(h) > 100 {
					want(t, "Sync", api.OK, h.Desk.Sync())
				}
			}
			most := 5 + 3*chain.Need(35*len(all)) // the root, three buckets, and the Room
			for n, x := range all[len(all)-30:] {
				want(t, "Sync", api.OK, h.Desk.Sync())
				had := stands(t, h)
				h.Adds("one", x)
				wantStay(t, h, had, most)
				want(t, "Sync", api.OK, h.Desk.Sync())
				had = stands(t, h)
				at := n * 7 % (len(h.List) - 1)
				h.Drops("one, or two", h.List[at:at+1+n%3/2]...)
				wantStay(t, h, had, most+2)
			}
		}
	}
}

// written tells how many sectors a Sync would write.
func written(h *entries.Held) int { return len(h.Desk.Dirty()) }

// TestP1702InPlace has no sector left: what needs no more than there is can be added, and taken out.
func TestP1702InPlace(t *testing.T) {
	for gen := 1; gen <= 3; gen++ {
		h := table.With(t, api.Least, gen, of(1, 4, 1, 1), of(2, 4, 1, 1), of(1, 5, 1, 1), of(1, 7, 1, 1), of(1, 9, 1, 1))
		for free := range 29 {
			if !h.Desk.Room().Used(free) {
				at, e := h.Desk.New(sample.Full('f'))
				want(t, "New", api.OK, e)
				h.Others = append(h.Others, at)
			}
		}
		for range 2 {
			h.Adds("in place", of(1, 6, 1, 1), of(2, 6, 1, 1))
			h.Drops("in place", of(1, 4, 1, 1), of(2, 6, 1, 1))
			h.NoAdd("one that needs more", api.ErrFull, slices.DeleteFunc(entries.OneHash(1, 2, 9), func(x api.Entry) bool { return x.At == 1 })...)
			h.Adds("in place", of(1, 4, 1, 1))
			h.Drops("in place", of(1, 6, 1, 1))
			want(t, "Sync", api.OK, h.Desk.Sync())
		}
		h.Drops("all", h.List...)
		h.Adds("in what was given back", of(1, 4, 1, 1))
	}
}
