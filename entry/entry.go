// Package entry has what all that keeps prints and places has alike: which entries may be, how they are ordered, and how they are laid.
package entry

import (
	"cmp"

	"masonry/api"
	"masonry/bits"
	"masonry/mark"
)

// Size is how many bytes an entry has when it is laid.
const Size = laid + 2

const laid = 33 // bytes of a print, as mark.Lay lays it

// May tells whether an entry may be kept.
func May(x api.Entry) bool {
	return mark.Valid(x.Print) && x.At >= 1 && x.At < api.Sectors
}

// Compare compares two entries by their prints, then by their places.
func Compare(a, b api.Entry) int {
	return cmp.Or(mark.Compare(a.Print, b.Print), cmp.Compare(a.At, b.At))
}

// Rise tells whether entries rise.
func Rise(l []api.Entry) bool {
	for n := 1; n < len(l); n++ {
		if Compare(l[n-1], l[n]) >= 0 {
			return false
		}
	}
	return true
}

// Lay lays entries that may be kept.
func Lay(o *bits.Out, l ...api.Entry) {
	for _, x := range l {
		p, _ := mark.Lay(x.Print) // what may be kept can be laid
		o.Raw(p).Half(x.At)
	}
}

// Read reads an entry; where there is none, it tells one that may not be kept.
func Read(i *bits.In) api.Entry {
	p, _ := mark.Read(i.Raw(laid))
	return api.Entry{Print: p, At: i.Half()}
}
