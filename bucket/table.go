package bucket

import (
	"slices"

	"masonry/api"
	"masonry/bits"
	"masonry/chain"
	"masonry/desk"
	"masonry/entry"
	"masonry/mark"
)

const (
	maxEntries = 1500
	each       = 4               // entries for which a table gets one bucket more
	bucketTag  = api.Bucket + 10 // the tag of a bucket's chain; that of the root's is api.Bucket
	half       = 2               // bytes of a Half
	nowhere    = 0               // the place of an empty table, and of an empty bucket
)

// table is a table as it is to be; of the buckets only those are read that are asked for.
type table struct {
	desk    *desk.Desk
	root    int // where it stands on the Desk
	gen     int // the form of the root's chain
	count   int // how many entries there are, as the root says
	buckets []*bucket
	gone    []int // where buckets stand that are not any more
	changed bool
}

// bucket is a bucket of a table.
type bucket struct {
	place   int // where it stands on the Desk
	gen     int // the form of its chain
	entries []api.Entry
	read    bool // whether entries are what it has
	changed bool // whether it is another one than on the Desk
}

// open reads a table's root.
func open(k *desk.Desk, root int) (*table, api.Errno) {
	if e := k.Bad(); e != api.OK { // of an empty table nothing is read that could tell
		return nil, e
	}
	t := &table{desk: k, root: root}
	if root == nowhere {
		t.grow(nowhere)
		return t, api.OK
	}
	c, e := chain.Get(k, root)
	if e != api.OK {
		return nil, e
	}
	if c.Tag != api.Bucket || !t.parse(c.Data) {
		return nil, api.ErrBroken
	}
	t.gen = c.Gen
	return t, api.OK
}

// parse reads what the root says, and tells whether it may say that.
func (t *table) parse(data string) bool {
	i := bits.On(data)
	t.count = i.Half()
	n := number(t.count)
	if t.count < 1 || t.count > maxEntries || len(data) != half*(1+n) {
		return false
	}
	for range n {
		t.grow(i.Half())
	}
	return true
}

// grow adds a bucket that stands at a place.
func (t *table) grow(place int) *bucket {
	b := &bucket{place: place, read: place == nowhere}
	t.buckets = append(t.buckets, b)
	return b
}

// number tells how many buckets there are for so many entries.
func number(entries int) int {
	return (entries-1)/each + 1 // one also of none
}

// slot tells in which bucket a print stands.
func (t *table) slot(p api.Print) int {
	return Slot(mark.Hash(p), len(t.buckets))
}

// at tells a bucket, and reads it, if it was not read yet.
func (t *table) at(n int) (*bucket, api.Errno) {
	b := t.buckets[n]
	if b.read {
		return b, api.OK
	}
	c, e := chain.Get(t.desk, b.place)
	if e != api.OK {
		return nil, e
	}
	l := entriesOf(c.Data)
	if c.Tag != bucketTag || !t.fit(n, l) {
		return nil, api.ErrBroken
	}
	b.gen, b.entries, b.read = c.Gen, l, true
	return b, api.OK
}

// fit tells whether entries may be all those of a bucket that stands somewhere.
func (t *table) fit(n int, l []api.Entry) bool {
	for _, x := range l {
		if !entry.May(x) || t.slot(x.Print) != n {
			return false
		}
	}
	return len(l) > 0 && entry.Rise(l)
}

// entriesOf tells the entries that are laid in bytes; where there is none, it tells one that may not be.
func entriesOf(data string) []api.Entry {
	var l []api.Entry
	for i := bits.On(data); i.Left() > 0; {
		l = append(l, entry.Read(i))
	}
	return l
}

// find tells the bucket of an entry, where it stands there or would stand, and whether it is there.
func (t *table) find(x api.Entry) (b *bucket, at int, there bool, e api.Errno) {
	b, e = t.at(t.slot(x.Print))
	if e != api.OK {
		return nil, 0, false, e
	}
	at, there = slices.BinarySearchFunc(b.entries, x, entry.Compare)
	return b, at, there, api.OK
}

// add adds an entry.
func (t *table) add(x api.Entry) api.Errno {
	if !entry.May(x) {
		return api.ErrArg
	}
	b, at, there, e := t.find(x)
	switch {
	case e != api.OK:
		return e
	case there:
		return api.ErrDup
	case t.count == maxEntries:
		return api.ErrLong
	}
	b.entries, b.changed = slices.Insert(b.entries, at, x), true
	t.count++
	t.changed = true
	if number(t.count) > len(t.buckets) {
		return t.split()
	}
	return api.OK
}

// drop takes an entry out.
func (t *table) drop(x api.Entry) api.Errno {
	b, at, there, e := t.find(x)
	switch {
	case e != api.OK:
		return e
	case !there:
		return api.ErrNone
	}
	b.entries, b.changed = slices.Delete(b.entries, at, at+1), true
	t.count--
	t.changed = true
	if number(t.count) < len(t.buckets) {
		return t.merge()
	}
	return api.OK
}

// split adds a bucket, and moves into it what belongs there: all of it was in one other bucket.
func (t *table) split() api.Errno {
	last := len(t.buckets)
	from, e := t.at(Slot(last, last)) // read while its entries are where they belong
	if e != api.OK {
		return e
	}
	to := t.grow(nowhere)
	var stay []api.Entry
	for _, x := range from.entries {
		if t.slot(x.Print) == last {
			to.entries = append(to.entries, x)
		} else {
			stay = append(stay, x)
		}
	}
	if len(to.entries) > 0 {
		from.entries, from.changed, to.changed = stay, true, true
	}
	return api.OK
}

// merge takes the last bucket away, and moves what it has to the one other bucket where that belongs then.
func (t *table) merge() api.Errno {
	last := len(t.buckets) - 1
	from, e := t.at(last)
	if e != api.OK {
		return e
	}
	to, e := t.at(Slot(last, last))
	if e != api.OK {
		return e
	}
	if len(from.entries) > 0 {
		to.entries, to.changed = append(to.entries, from.entries...), true
		slices.SortFunc(to.entries, entry.Compare)
	}
	if from.place != nowhere {
		t.gone = append(t.gone, from.place)
	}
	t.buckets = t.buckets[:last]
	return api.OK
}

// write writes what has changed; the new root.
func (t *table) write(gen int) (int, api.Errno) {
	if !t.changed {
		return t.root, api.OK
	}
	before := t.desk.Mark()
	root, e := t.replace(gen)
	if e != api.OK {
		t.desk.Back(before)
		return 0, e
	}
	return root, api.OK
}

// replace gives back what is another one now, then puts what there is instead: that may stand in the same sectors, so that no more are needed than the table has in the end.
func (t *table) replace(gen int) (int, api.Errno) {
	if e := t.giveBack(); e != api.OK {
		return 0, e
	}
	if t.count == 0 {
		return nowhere, api.OK
	}
	o := new(bits.Out).Half(t.count)
	for _, b := range t.buckets {
		if b.changed {
			if e := b.put(t.desk, gen); e != api.OK {
				return 0, e
			}
		}
		o.Half(b.place)
	}
	data, _ := o.End() // both counts and places are Halves
	return chain.Put(t.desk, gen, api.Bucket, data)
}

// giveBack gives the sectors back of the root, and of each bucket that is another one now, or is not any more.
func (t *table) giveBack() api.Errno {
	l := t.gone
	if t.root != nowhere {
		l = append(l, t.root)
	}
	for _, b := range t.buckets {
		if b.changed && b.place != nowhere {
			l = append(l, b.place)
		}
	}
	for _, place := range l {
		if e := chain.Drop(t.desk, place); e != api.OK {
			return e
		}
	}
	return api.OK
}

// put puts a bucket, and tells it where it stands; an empty one stands nowhere.
func (b *bucket) put(k *desk.Desk, gen int) api.Errno {
	b.place = nowhere
	if len(b.entries) == 0 {
		return api.OK
	}
	o := new(bits.Out)
	entry.Lay(o, b.entries...)
	data, _ := o.End()
	var e api.Errno
	b.place, e = chain.Put(k, gen, bucketTag, data)
	return e
}

// all reads all buckets, and tells their entries in order.
func (t *table) all() ([]api.Entry, api.Errno) {
	var l []api.Entry
	for n := range t.buckets {
		b, e := t.at(n)
		if e != api.OK {
			return nil, e
		}
		l = append(l, b.entries...)
	}
	if len(l) != t.count {
		return nil, api.ErrBroken
	}
	slices.SortFunc(l, entry.Compare)
	return l, api.OK
}

// sectors reads all buckets, and tells all sectors, rising.
func (t *table) sectors() ([]int, api.Errno) {
	if _, e := t.all(); e != api.OK {
		return nil, e
	}
	var l []int
	for _, place := range t.places() {
		s, _ := chain.Sectors(t.desk, place) // it was read just now
		l = append(l, s...)
	}
	slices.Sort(l)
	for n := 1; n < len(l); n++ {
		if l[n-1] == l[n] { // two buckets may end in one sector, where it says the same of both
			return nil, api.ErrBroken
		}
	}
	return l, api.OK
}

// places tells where the root and the buckets stand that stand somewhere.
func (t *table) places() []int {
	l := []int{t.root}
	for _, b := range t.buckets {
		l = append(l, b.place)
	}
	return slices.DeleteFunc(l, func(place int) bool { return place == nowhere })
}

// check tells whether all of the table is as it should be, and of a form.
func (t *table) check(gen int) api.Errno {
	if _, e := t.sectors(); e != api.OK {
		return e
	}
	if t.root != nowhere && t.gen != gen {
		return api.ErrBroken
	}
	for _, b := range t.buckets {
		if b.place != nowhere && b.gen != gen {
			return api.ErrBroken
		}
	}
	return api.OK
}
