// Package entries has what the tests of all that keeps prints and places hand in, and what they ask, which is alike for each way to keep them; the program does not call it.
package entries

import (
	"cmp"
	"math"
	"slices"
	"strings"

	"masonry/api"
	"masonry/sample"
)

const most = 1500 // entries that there may be, written out

// Print tells a print of a kind whose first two bytes are a hash; another salt makes it another one.
func Print(kind, hash, salt int) api.Print {
	head := string([]byte{byte(hash), byte(hash >> 8), byte(salt), byte(salt >> 8)})
	return api.Print{Kind: kind, Sum: head + strings.Repeat("p", size(kind)-len(head))}
}

// size tells how many bytes a print of a kind has.
func size(kind int) int {
	if kind == api.ShaOne {
		return 20
	}
	return 32
}

// Of tells an entry of such a print.
func Of(kind, hash, salt, at int) api.Entry {
	return api.Entry{Print: Print(kind, hash, salt), At: at}
}

// Hash tells the number that the first two bytes of a print are.
func Hash(p api.Print) int { return int(p.Sum[0]) + 256*int(p.Sum[1]) }

// Compare compares entries by the kinds and the bytes of their prints, then by their places.
func Compare(a, b api.Entry) int {
	return cmp.Or(cmp.Compare(a.Print.Kind, b.Print.Kind), cmp.Compare(a.Print.Sum, b.Print.Sum), cmp.Compare(a.At, b.At))
}

// Sorted tells entries in their order.
func Sorted(l ...api.Entry) []api.Entry {
	l = slices.Clone(l)
	slices.SortFunc(l, Compare)
	return l
}

// Lay tells how entries are laid: the kind in a byte, the bytes of the print, zero bytes up to 33 in all, the place in two.
func Lay(l ...api.Entry) string {
	var b strings.Builder
	for _, x := range l {
		b.WriteString(string([]byte{byte(x.Print.Kind)}) + x.Print.Sum + strings.Repeat("\x00", 32-len(x.Print.Sum)))
		b.WriteString(Low(x.At))
	}
	return b.String()
}

// Low tells numbers in two bytes each, the lowest one first.
func Low(l ...int) string {
	var b []byte
	for _, n := range l {
		b = append(b, byte(n), byte(n>>8))
	}
	return string(b)
}

// Mixed tells n entries of prints of both kinds and of any hash, in no order.
func Mixed(n int) []api.Entry {
	r := sample.Draw(n)
	var l []api.Entry
	for k := range n {
		hash := r.Below(1 << 16)
		if k%10 == 3 { // some of one hash
			hash = r.One(0, 65535)
		}
		l = append(l, Of(1+k%2, hash, k, r.One(1, 1999, 255, 256, 1+r.Below(1999))))
	}
	return l
}

// Crowd tells n entries, at most 2,160, of a few hashes, prints and places, in no order.
func Crowd(n int) []api.Entry {
	var l []api.Entry
	for k := range n {
		hash := []int{0, 1, 2, 3, 255, 256, 32768, 65535, 4}[k%9]
		l = append(l, Of(1+k/9%2, hash, k/18%3, 1+k/54*97%1999))
	}
	return l
}

// Alike tells n entries of one print.
func Alike(kind, hash, n int) []api.Entry {
	var l []api.Entry
	for k := range n {
		l = append(l, Of(kind, hash, 7, 1+k*1237%1999))
	}
	return l
}

// OneHash tells n entries of prints of one hash.
func OneHash(kind, hash, n int) []api.Entry {
	var l []api.Entry
	for k := range n {
		l = append(l, Of(kind, hash, 1+k*1237%1999, 1+k))
	}
	return l
}

// OnePlace tells n entries of one place.
func OnePlace(kind, at, n int) []api.Entry {
	var l []api.Entry
	for k := range n {
		l = append(l, Of(kind, k*7919%65536, k, at))
	}
	return l
}

// NoPrints tells what is no print.
func NoPrints() []api.Print {
	var l []api.Print
	for _, n := range []int{0, 1, 2, 19, 21, 31, 33, 64, 20 + 256, 32 + 256} {
		l = append(l, api.Print{Kind: api.ShaOne, Sum: sample.Bytes(n)}, api.Print{Kind: api.ShaTwo, Sum: sample.Bytes(n)})
	}
	l = append(l, api.Print{Kind: api.ShaOne, Sum: sample.Bytes(32)}, api.Print{Kind: api.ShaTwo, Sum: sample.Bytes(20)})
	for _, kind := range append(sample.Extremes(), 0, 3, -1, -2, 255, 257, 258, 1<<16+1, 1<<32+1, 1<<32+2) {
		l = append(l, api.Print{Kind: kind, Sum: sample.Bytes(20)}, api.Print{Kind: kind, Sum: sample.Bytes(32)}, api.Print{Kind: kind})
	}
	return l
}

// NoPlaces tells what is no place of an entry.
func NoPlaces() []int {
	return []int{0, -1, -2, -1999, 2000, 2001, 32768, 65535, 65536, 65537, 1<<32 + 1, -1<<32 + 1, math.MinInt, math.MinInt + 1, math.MaxInt}
}

// Wrong tells entries that may not be.
func Wrong() []api.Entry {
	var l []api.Entry
	for _, p := range NoPrints() {
		l = append(l, api.Entry{Print: p, At: 5})
	}
	for n, at := range NoPlaces() {
		l = append(l, Of(1+n%2, 77, n, at))
	}
	return append(l, api.Entry{}, api.Entry{At: 2000})
}

// NoForms tells what is no form.
func NoForms() []int {
	return append(sample.Extremes(), 0, -1, -2, 4, 5, 255, 256, 257, 1<<16+1, 1<<32+1)
}
