package entries

import (
	"slices"
	"strings"

	"masonry/api"
	"masonry/chain"
	"masonry/crc"
	"masonry/desk"
	"masonry/desks"
	"masonry/sample"
	"masonry/witness"
)

const part = 236 // bytes of a chain in a sector, written out

// ReadAll tells the entries that are laid in bytes; of what is no print it tells one with a kind that is none.
func ReadAll(data string) []api.Entry {
	var l []api.Entry
	for ; len(data) >= 35; data = data[35:] {
		p := api.Print{Kind: int(data[0]), Sum: data[1:33]}
		if p.Kind == 1 {
			p.Sum = data[1:21]
			if strings.Trim(data[21:33], "\x00") != "" {
				p.Kind = 0
			}
		}
		l = append(l, api.Entry{Print: p, At: int(data[33]) + 256*int(data[34])})
	}
	return l
}

// Sound tells whether entries rise, and may all be, by what ReadAll tells.
func Sound(l []api.Entry) bool {
	for n, x := range l {
		if x.At < 1 || x.At > 1999 || x.Print.Kind < 1 || x.Print.Kind > 2 || n > 0 && Compare(l[n-1], x) >= 0 {
			return false
		}
	}
	return true
}

// PutChain puts a chain; its place.
func PutChain(t witness.T, k *desk.Desk, gen, tag int, data string) int {
	t.Helper()
	at, e := chain.Put(k, gen, tag, data)
	witness.Want(t, "chain.Put", api.OK, e)
	return at
}

// SectorsOf tells the sectors of a chain.
func SectorsOf(t witness.T, what string, k *desk.Desk, at int) []int {
	t.Helper()
	l, e := chain.Sectors(k, at)
	witness.Want(t, what+": chain.Sectors", api.OK, e)
	return l
}

// WantChain asks for the chain at a place.
func WantChain(t witness.T, what string, k *desk.Desk, at, gen, tag int, data string) {
	t.Helper()
	if got, e := chain.Get(k, at); got != (chain.Chain{Gen: gen, Tag: tag, Refs: 1, Data: data}) || e != api.OK {
		t.Errorf("%s: at %d: %x, %d, not the form %d, the tag %d, %x", what, at, got, e, gen, tag, data)
	}
}

// Seal seals a sector of a chain that is laid by hand.
func Seal(t witness.T, gen, tag, number, refs, next int, data string) string {
	t.Helper()
	b, e := crc.Seal(api.Sector, string([]byte{2, byte(gen), byte(tag), byte(number)})+Low(refs, next, len(data))+data)
	witness.Want(t, "crc.Seal", api.OK, e)
	return b
}

// LayAgain lays other bytes of a chain, as many, in its sectors.
func LayAgain(t witness.T, k *desk.Desk, sectors []int, c chain.Chain, data string) {
	t.Helper()
	for n, at := range sectors {
		next, refs := 0, 0
		if n < len(sectors)-1 {
			next = sectors[n+1]
		}
		if n == 0 {
			refs = 1
		}
		witness.Want(t, "Set", api.OK, k.Set(at, Seal(t, c.Gen, c.Tag, n, refs, next, data[n*part:min(len(data), n*part+part)])))
	}
}

// AskSpoilt spoils bytes of each sector, on the desk and on the disk.
func (c Kind) AskSpoilt(t witness.T, lists [][]api.Entry) {
	t.Helper()
	for gen, l := range lists {
		gen = 1 + gen%3
		h := c.With(t, api.Least, gen, l...)
		witness.Want(t, "Sync", api.OK, h.Desk.Sync())
		sectors, _ := c.Sectors(h.Desk, h.Root)
		m := h.Desk.Mark()
		for _, at := range sectors {
			s, _ := h.Desk.Get(at)
			for n := range api.Sector {
				b := sample.Changed(s, n, []byte{1, 128, 255}[n%3])
				witness.Want(t, "Set", api.OK, h.Desk.Set(at, b))
				witness.Kept(t, "spoilt", h.Disk, h.Desk, func() { h.WantNoList("spoilt", h.Root, api.ErrBroken) })
				if at == h.Root && n%8 == 0 {
					h.Nothing("a root that is spoilt", h.Root, api.ErrBroken)
				}
				if n%16 == 0 {
					c := h.Disk.Twin()
					witness.Want(t, "disk.Write", api.OK, c.Write(api.Write{At: 111 + at, Data: b}))
					x := *h
					x.Disk, x.Desk = c, desks.Opened(t, c)
					x.WantNoList("spoilt on the disk", h.Root, api.ErrBroken)
				}
			}
			h.Desk.Back(m)
		}
		h.Look("good again")
		for _, at := range sectors {
			witness.Want(t, "Drop", api.OK, h.Desk.Drop(at))
			other, e := h.Desk.New(sample.Full(0))
			witness.Want(t, "New", api.OK, e)
			if other == at {
				h.WantNoList("a sector that is another one's", h.Root, api.ErrBroken)
			}
			h.Desk.Back(m)
		}
	}
}

// AskTwoForms changes one of one form by another one: what is put anew has that form, so that it is of none.
func (c Kind) AskTwoForms(t witness.T) {
	t.Helper()
	h := c.With(t, 200, 1, Mixed(30)...)
	root, e := c.Add(h.Desk, 2, h.Root, Of(1, 7, 7, 7))
	witness.Want(t, "Add", api.OK, e)
	l, e := c.All(h.Desk, root)
	if !slices.Equal(l, Sorted(append(Mixed(30), Of(1, 7, 7, 7))...)) || e != api.OK {
		t.Errorf("All: %d entries, %d", len(l), e)
	}
	for gen := range 5 {
		witness.Want(t, "Check", api.ErrBroken, c.Check(h.Desk, gen, root))
	}
	root, e = c.Drop(h.Desk, 3, root, l...)
	if root != 0 || e != api.OK {
		t.Errorf("Drop: %d, %d", root, e)
	}
	witness.WantUsed(t, "Drop", h.Desk, 0, 1)
}

// AskStaleAndCommitted has a root that was given back, and can still be read where it was committed: it can't be given back again.
func (c Kind) AskStaleAndCommitted(t witness.T) {
	t.Helper()
	for gen := 1; gen <= 3; gen++ {
		h := c.With(t, api.Least, gen, Mixed(9)...)
		witness.Want(t, "Sync", api.OK, h.Desk.Sync())
		was := *h
		h.Drops("all", h.List...)
		was.NoAdd("given back", api.ErrRange, Of(1, 7, 7, 7))
		was.NoDrop("given back", api.ErrRange, was.List[0])
		was.NoDrop("given back", api.ErrRange, was.List...)
		was.NoDrop("given back", api.ErrNone, Of(1, 7, 7, 7))
		witness.Kept(t, "given back, and no entries", h.Disk, h.Desk, func() {
			was.Put("no entries")
			was.Take("no entries")
		})
	}
}
