package room

import (
	"hash/crc32"
	"math"
	"slices"
	"strings"
	"testing"
	"unsafe"

	"masonry/api"
	"masonry/sample"
)

const most = 1900 // sectors of a Room

// sizes tells numbers of sectors: the least and the greatest ones, some that 8 divides, and ones beside these.
func sizes() []int {
	return []int{1, 2, 3, 7, 8, 9, 10, 15, 16, 17, 19, 63, 64, 65, 127, 128, 129, 140, 255, 256, 257, 1000, 1887, 1888, 1889, 1895, 1896, 1897, 1898, 1899, most}
}

// wrongSizes tells numbers of sectors that no Room has.
func wrongSizes() []int {
	return []int{0, -1, -2, -8, -1900, math.MinInt, math.MinInt + 1, 1901, 1902, 1903, 1904, 1905, 2000, 65535, 65536, 65536 + 9, 1<<32 + 9, -1<<32 + 9, math.MaxInt, math.MaxInt - 1}
}

// outside tells numbers that are no sector of n.
func outside(n int) []int {
	return []int{-1, -2, -7, -8, -9, -64, -n, n, n + 1, n + 7, n + 8, n + 64, n + 1900, 1900, 1904, 2000, 65536, 1 << 32, 1<<32 + n - 1, -1 << 32, math.MaxInt, math.MaxInt - 1, math.MinInt, math.MinInt + 1}
}

// each tells the sectors of n, rising.
func each(n int) []int {
	l := make([]int, n)
	for k := range l {
		l[k] = k
	}
	return l
}

// but tells the sectors of n that are not in l, rising.
func but(n int, l ...int) []int {
	return slices.DeleteFunc(each(n), func(at int) bool { return slices.Contains(l, at) })
}

// some tells sectors of n in no order, some of them several times.
func some(n, salt int) []int {
	b := sample.Bytes(40 + 5*salt)
	var l []int
	for k := range len(b) - 1 {
		l = append(l, (int(b[k])<<8+int(b[k+1]))%n)
	}
	return l
}

// once tells l rising, each once.
func once(l []int) []int {
	c := slices.Clone(l)
	slices.Sort(c)
	return slices.Compact(c)
}

// patterns tells lists of sectors that may be in use of n, rising, each once.
func patterns(n int) [][]int {
	l := [][]int{nil, each(n), but(n, 0), but(n, n-1), but(n, n/2), {0}, {n - 1}, once([]int{0, n - 1})}
	var even, late []int
	for at := range n {
		if at%2 == 0 {
			even = append(even, at)
		}
		if at/8%2 == 1 {
			late = append(late, at)
		}
	}
	l = append(l, even, late, but(n, even...), but(n, late...), each(n/2), but(n, each(n/2)...))
	for salt := range 4 {
		l = append(l, once(some(n, salt)))
	}
	return l
}

// made tells a Room of n sectors of which these are in use.
func made(t *testing.T, n int, used ...int) *Room {
	t.Helper()
	r, e := New(n, used...)
	if r == nil || e != api.OK {
		t.Fatalf("New(%d, %v): %v, %d", n, used, r, e)
	}
	return r
}

// wantRoom asks that a Room has n sectors, of which these are in use: rising, each once.
func wantRoom(t *testing.T, what string, r *Room, n int, used ...int) {
	t.Helper()
	if got := r.All(); !slices.Equal(got, used) {
		t.Errorf("%s: of %d sectors %v are in use, not %v", what, n, got, used)
	}
	if r.Size() != n || r.Free() != n-len(used) {
		t.Errorf("%s: of %d sectors %d are not in use, not %d of %d", what, r.Size(), r.Free(), n-len(used), n)
	}
	is := make([]bool, n)
	for _, at := range used {
		is[at] = true
	}
	for at := range is {
		if r.Used(at) != is[at] {
			t.Errorf("%s: of %d sectors %d is in use: %v", what, n, at, !is[at])
		}
	}
	for _, at := range outside(n) {
		if r.Used(at) && (at < 0 || at >= n) {
			t.Errorf("%s: %d is in use, of %d sectors", what, at, n)
		}
	}
}

// wantTake asks that Take takes at.
func wantTake(t *testing.T, what string, r *Room, want int) {
	t.Helper()
	if at, e := r.Take(); at != want || e != api.OK {
		t.Errorf("%s: %d, %d, not %d", what, at, e, want)
	}
}

// wantFull asks that there is nothing to take.
func wantFull(t *testing.T, what string, r *Room) {
	t.Helper()
	if at, e := r.Take(); at != 0 || e != api.ErrFull {
		t.Errorf("%s: %d, %d, not 0, ErrFull", what, at, e)
	}
}

// wantGive asks that Give tells how many.
func wantGive(t *testing.T, what string, r *Room, want int, l ...int) {
	t.Helper()
	if got := r.Give(l...); got != want {
		t.Errorf("%s: Give(%v): %d, not %d", what, l, got, want)
	}
}

// P1001: New.

func TestP1001NewOfEachSize(t *testing.T) {
	for n := 1; n <= most; n++ {
		r, e := New(n)
		if r == nil || e != api.OK || r.Size() != n || r.Free() != n || len(r.All()) != 0 {
			t.Fatalf("of %d sectors: %d, %v of which %d are not in use", n, e, r.Size(), r.Free())
		}
		if r.Used(0) || r.Used(n-1) || r.Used(n) || r.Used(-1) {
			t.Errorf("of %d sectors one is in use", n)
		}
	}
}

func TestP1001NewOfAWrongSize(t *testing.T) {
	for _, n := range wrongSizes() {
		for _, used := range [][]int{nil, {}, {0}, {-1}, {n}, {n - 1}, {0, 1, 2}} {
			if r, e := New(n, used...); r != nil || e != api.ErrArg {
				t.Errorf("New(%d, %v): %v, %d, not ErrArg", n, used, r, e)
			}
		}
	}
}

func TestP1001NewUsed(t *testing.T) {
	for _, n := range sizes() {
		for _, used := range patterns(n) {
			wantRoom(t, "New", made(t, n, used...), n, used...)
		}
	}
	wantRoom(t, "none", made(t, 9, []int{}...), 9)
}

func TestP1001NewOfOneSector(t *testing.T) {
	for _, n := range []int{1, 2, 7, 8, 9, 16, 17, 65} {
		for at := range n {
			wantRoom(t, "one of them", made(t, n, at), n, at)
		}
	}
	for at := range most {
		if r := made(t, most, at); !slices.Equal(r.All(), []int{at}) || r.Free() != most-1 || !r.Used(at) {
			t.Errorf("%d: %v, %d", at, r.All(), r.Free())
		}
	}
}

func TestP1001NewInAnyOrderAndTwice(t *testing.T) {
	for _, n := range sizes() {
		for salt := range 20 {
			l := some(n, salt)
			wantRoom(t, "in no order", made(t, n, l...), n, once(l)...)
			wantRoom(t, "all of it twice", made(t, n, append(l, l...)...), n, once(l)...)
		}
		back := each(n)
		slices.Reverse(back)
		wantRoom(t, "falling", made(t, n, back...), n, each(n)...)
		wantRoom(t, "the last one thrice", made(t, n, n-1, n-1, n-1), n, n-1)
		wantRoom(t, "the first one thrice", made(t, n, 0, 0, 0), n, 0)
	}
	wantRoom(t, "two of nine", made(t, 9, 2, 0, 2), 9, 0, 2)
}

func TestP1001NewUsedOutside(t *testing.T) {
	for _, n := range sizes() {
		for _, at := range outside(n) {
			if at >= 0 && at < n {
				continue
			}
			for _, used := range [][]int{{at}, {0, at}, {at, 0}, {0, at, n - 1}, append(each(n), at), append([]int{at}, each(n)...), {at, at}} {
				if r, e := New(n, used...); r != nil || e != api.ErrArg {
					t.Errorf("New(%d, .. %d ..): %v, %d, not ErrArg", n, at, r, e)
				}
			}
		}
	}
}

// P1001: Take.

func TestP1001TakeKnown(t *testing.T) {
	r := made(t, 9, 0, 2)
	wantTake(t, "the first", r, 1)
	wantTake(t, "the second", r, 3)
	wantRoom(t, "behind two", r, 9, 0, 1, 2, 3)
}

func TestP1001TakeTillNoneIsLeft(t *testing.T) {
	for _, n := range sizes() {
		for _, used := range patterns(n) {
			r := made(t, n, used...)
			free := but(n, used...)
			for k, at := range free {
				wantTake(t, "the least", r, at)
				if r.Free() != len(free)-k-1 || !r.Used(at) {
					t.Errorf("of %d sectors, behind %d: %d are not in use", n, at, r.Free())
				}
			}
			wantFull(t, "none is left", r)
			wantFull(t, "and again", r)
			wantRoom(t, "behind ErrFull", r, n, each(n)...)
		}
	}
}

func TestP1001TakeTheOnlyOne(t *testing.T) {
	for _, n := range sizes() {
		r := made(t, n, each(n)...)
		wantFull(t, "all in use", r)
		for at := range n {
			wantGive(t, "one", r, 1, at)
			wantTake(t, "the only one", r, at)
			wantFull(t, "all in use again", r)
		}
	}
}

// P1001: Give.

func TestP1001Give(t *testing.T) {
	for _, n := range sizes() {
		for _, used := range patterns(n) {
			for _, gone := range patterns(n) {
				r := made(t, n, used...)
				left := slices.DeleteFunc(slices.Clone(used), func(at int) bool { return slices.Contains(gone, at) })
				if got := r.Give(gone...); got != len(used)-len(left) || !slices.Equal(r.All(), left) || r.Free() != n-len(left) || r.Size() != n {
					t.Errorf("of %d sectors, %v in use, Give(%v): %d, %v, %d", n, used, gone, got, r.All(), r.Free())
				}
			}
			if n > 20 {
				break // of many sectors each pair of patterns would take long
			}
		}
	}
}

func TestP1001GiveOfMany(t *testing.T) {
	for salt := range 40 {
		r := made(t, most, each(most)...)
		l := some(most, salt)
		wantGive(t, "in no order, some twice", r, len(once(l)), l...)
		wantRoom(t, "behind it", r, most, but(most, l...)...)
		wantGive(t, "the same again", r, 0, l...)
		wantGive(t, "all", r, most-len(once(l)), each(most)...)
		wantRoom(t, "behind all", r, most)
	}
}

func TestP1001GiveOfNone(t *testing.T) {
	r := made(t, 9, 0, 2, 8)
	wantGive(t, "none", r, 0)
	wantGive(t, "a nil list", r, 0, nil...)
	wantGive(t, "an empty list", r, 0, []int{}...)
	wantGive(t, "not in use", r, 0, 1, 3, 4, 5, 6, 7)
	wantRoom(t, "behind them", r, 9, 0, 2, 8)
}

func TestP1001GiveTwice(t *testing.T) {
	r := made(t, 9, 0, 2, 8)
	wantGive(t, "twice in a row", r, 1, 2, 2, 2)
	wantGive(t, "once more", r, 0, 2)
	wantRoom(t, "behind it", r, 9, 0, 8)
	wantGive(t, "among others", r, 2, 8, 0, 8, 1, 0)
	wantRoom(t, "behind all", r, 9)
	wantGive(t, "of none that is in use", r, 0, 0, 1, 2, 3, 4, 5, 6, 7, 8)
}

func TestP1001GiveOutside(t *testing.T) {
	for _, n := range sizes() {
		r := made(t, n, each(n)...)
		for _, at := range outside(n) {
			if at >= 0 && at < n {
				continue
			}
			wantGive(t, "outside", r, 0, at)
			wantGive(t, "outside, twice", r, 0, at, at)
			wantGive(t, "between two", r, len(once([]int{0, n - 1})), 0, at, n-1, at)
			wantRoom(t, "behind them", r, n, but(n, 0, n-1)...)
			r = made(t, n, each(n)...)
		}
	}
}

func TestP1001TakeBehindGive(t *testing.T) {
	r := made(t, 20, each(20)...)
	wantGive(t, "three", r, 3, 17, 4, 9)
	wantTake(t, "the least of three", r, 4)
	wantTake(t, "the least of two", r, 9)
	wantGive(t, "a lesser one", r, 1, 2)
	wantTake(t, "the lesser one", r, 2)
	wantTake(t, "the last", r, 17)
	wantFull(t, "none is left", r)
	wantGive(t, "the last one", r, 1, 19)
	wantGive(t, "the first one", r, 1, 0)
	wantTake(t, "the first one", r, 0)
	wantTake(t, "the last one", r, 19)
	wantFull(t, "none is left again", r)
}

// P1001: a long run, against a list of what is in use.

// model is what a Room does, done by a list.
type model []bool

// take takes the least one that is not in use.
func (m model) take() (int, api.Errno) {
	if at := slices.Index(m, false); at >= 0 {
		m[at] = true
		return at, api.OK
	}
	return 0, api.ErrFull
}

// give gives sectors back.
func (m model) give(l ...int) int {
	n := 0
	for _, at := range l {
		if at >= 0 && at < len(m) && m[at] {
			m[at] = false
			n++
		}
	}
	return n
}

// all tells those in use.
func (m model) all() []int {
	return slices.DeleteFunc(each(len(m)), func(at int) bool { return !m[at] })
}

func TestP1001LongRuns(t *testing.T) {
	for _, n := range sizes() {
		r, m := made(t, n), make(model, n)
		for k, b := range []byte(sample.Bytes(600 + n)) {
			at := (int(b)*131 + k*7) % (n + 3)
			switch {
			case b < 150:
				got, e := r.Take()
				if want, f := m.take(); got != want || e != f {
					t.Fatalf("of %d sectors, step %d: %d, %d, not %d, %d", n, k, got, e, want, f)
				}
			case b < 200:
				wantGive(t, "one", r, m.give(at-1), at-1)
			default:
				wantGive(t, "three", r, m.give(at, at+1, at/2), at, at+1, at/2)
			}
			if k%50 == 0 {
				wantRoom(t, "on the way", r, n, m.all()...)
				s, _ := r.Lay()
				again, e := Read(s)
				if e != api.OK {
					t.Fatalf("of %d sectors, step %d: %d", n, k, e)
				}
				r = again // from here on with what was read
			}
		}
		wantRoom(t, "in the end", r, n, m.all()...)
	}
}

// P1001: Copy.

func TestP1001CopyIsTheSame(t *testing.T) {
	for _, n := range sizes() {
		for _, used := range patterns(n) {
			r := made(t, n, used...)
			c := r.Copy()
			if c == r {
				t.Fatalf("the copy is the Room itself")
			}
			wantRoom(t, "the copy", c, n, used...)
			a, e := r.Lay()
			b, f := c.Lay()
			if a != b || e != api.OK || f != api.OK {
				t.Errorf("of %d sectors the copy is laid otherwise: %d, %d", n, e, f)
			}
		}
	}
}

func TestP1001CopyGoesItsOwnWay(t *testing.T) {
	for _, n := range []int{9, 16, 17, 64, 65, 1899, most} {
		used := []int{0, 2, n - 1}
		r := made(t, n, used...)
		c := r.Copy()
		wantTake(t, "of the Room", r, 1)
		wantGive(t, "of the Room", r, 1, n-1)
		wantRoom(t, "the copy", c, n, used...)
		wantRoom(t, "the Room", r, n, 0, 1, 2)
		wantGive(t, "of the copy", c, 2, 0, 2)
		wantTake(t, "of the copy", c, 0)
		wantTake(t, "of the copy", c, 1)
		wantRoom(t, "the Room", r, n, 0, 1, 2)
		wantRoom(t, "the copy", c, n, 0, 1, n-1)
		d := c.Copy()
		wantGive(t, "of a copy's copy", d, 3, each(n)...)
		wantRoom(t, "the copy", c, n, 0, 1, n-1)
		wantRoom(t, "the Room", r, n, 0, 1, 2)
	}
}

// P1001: a nil Room.

func TestP1001Nil(t *testing.T) {
	var r *Room
	if at, e := r.Take(); at != 0 || e != api.ErrArg {
		t.Errorf("Take: %d, %d", at, e)
	}
	wantGive(t, "a nil Room", r, 0)
	wantGive(t, "a nil Room", r, 0, 0, 1, 2, -1, math.MaxInt, math.MinInt)
	for _, at := range []int{0, 1, 7, -1, most - 1, most, math.MaxInt, math.MinInt} {
		if r.Used(at) {
			t.Errorf("%d is in use", at)
		}
	}
	if r.Free() != 0 || r.Size() != 0 || len(r.All()) != 0 {
		t.Errorf("%d, %d, %v", r.Free(), r.Size(), r.All())
	}
	if r.Copy() != nil {
		t.Errorf("it has a copy")
	}
}

// P1001: a Room that New did not make has no sectors.

func TestP1001Zero(t *testing.T) {
	r := new(Room)
	wantRoom(t, "a zero Room", r, 0)
	wantFull(t, "a zero Room", r)
	wantGive(t, "a zero Room", r, 0, 0, 1, -1)
	wantRoom(t, "its copy", r.Copy(), 0)
}

// P1001: what is handed in stays, and what is answered is of its own.

func TestP1001KeepsWhatWasHandedIn(t *testing.T) {
	l := []int{7, 3, 7, 9, 1, 1}
	had := slices.Clone(l)
	r := made(t, 20, l[:3]...)
	r.Take()
	wantGive(t, "two of them", r, 2, l[:3]...)
	made(t, 20, l...).Give(l...)
	if !slices.Equal(l, had) {
		t.Errorf("what was handed in is now %v", l)
	}
	r = made(t, 20, l...)
	for k := range l {
		l[k] = 15
	}
	wantRoom(t, "behind a change of what was handed in", r, 20, 1, 3, 7, 9)
	l = []int{1, 9}
	wantGive(t, "two", r, 2, l...)
	l[0], l[1] = 3, 7
	wantRoom(t, "behind a change of what was given", r, 20, 3, 7)
}

func TestP1001AnswersAreTheirOwn(t *testing.T) {
	r := made(t, 20, 3, 5, 9)
	one, two := r.All(), r.All()
	one[0], one[1], one[2] = 11, 12, 13
	_ = append(one[:1], 14, 15)
	if !slices.Equal(two, []int{3, 5, 9}) {
		t.Errorf("what was answered is now %v", two)
	}
	wantRoom(t, "behind a change of what was answered", r, 20, 3, 5, 9)
	r.Take()
	r.Give(5)
	if !slices.Equal(two, []int{3, 5, 9}) {
		t.Errorf("behind later calls what was answered is %v", two)
	}
}

func TestP1001RoomsAreTheirOwn(t *testing.T) {
	l := []int{3, 5, 9}
	one, two := made(t, 20, l...), made(t, 20, l...)
	one.Give(l...)
	wantTake(t, "of the other", two, 0)
	wantRoom(t, "the one", one, 20)
	wantRoom(t, "the other", two, 20, 0, 3, 5, 9)
}

// sealed tells the sector of a body: zero bytes behind it, and the library's sum.
func sealed(body string) string {
	body += strings.Repeat("\x00", 252-len(body))
	x := crc32.ChecksumIEEE([]byte(body))
	return body + string([]byte{byte(x), byte(x >> 8), byte(x >> 16), byte(x >> 24)})
}

// body tells what stands ahead of the zero bytes of a Room's sector.
func body(n int, used ...int) string {
	b := make([]byte, 3+(n+7)/8)
	b[0], b[1], b[2] = 6, byte(n), byte(n>>8)
	for _, at := range used {
		b[3+at/8] += byte([]int{1, 2, 4, 8, 16, 32, 64, 128}[at%8])
	}
	return string(b)
}

// wantLay asks that a Room is laid in the sector want.
func wantLay(t *testing.T, what string, r *Room, want string) {
	t.Helper()
	if got, e := r.Lay(); got != want || e != api.OK {
		t.Errorf("%s: %x, %d, not %x", what, got, e, want)
	}
}

// wantRead asks that Read tells a Room of n sectors, of which these are in use.
func wantRead(t *testing.T, what string, b string, n int, used ...int) {
	t.Helper()
	r, e := Read(b)
	if r == nil || e != api.OK {
		t.Fatalf("%s: of %d sectors, %v in use: %v, %d", what, n, used, r, e)
	}
	wantRoom(t, what, r, n, used...)
}

// wantFault asks that Read answers the error want, and no Room.
func wantFault(t *testing.T, what string, want api.Errno, b string) {
	t.Helper()
	if r, e := Read(b); r != nil || e != want {
		t.Errorf("%s: %d bytes %.24x: %v, %d, not error %d", what, len(b), b, r, e, want)
	}
}

// P1002: Lay.

func TestP1002LayKnown(t *testing.T) {
	r := made(t, 19, 0, 3, 8, 18)
	b, e := r.Lay()
	want := "\x06\x13\x00\x09\x01\x04"
	if e != api.OK || len(b) != api.Sector || b[:6] != want || strings.Trim(b[6:252], "\x00") != "" {
		t.Errorf("%x, %d, not %x", b, e, want)
	}
	wantLay(t, "nineteen", r, sealed(want))
	wantLay(t, "one, not in use", made(t, 1), sealed("\x06\x01"))
	wantLay(t, "one, in use", made(t, 1, 0), sealed("\x06\x01\x00\x01"))
	wantLay(t, "eight, all in use", made(t, 8, each(8)...), sealed("\x06\x08\x00\xff"))
	wantLay(t, "nine, all in use", made(t, 9, each(9)...), sealed("\x06\x09\x00\xff\x01"))
	wantLay(t, "the most, all in use", made(t, most, each(most)...), sealed("\x06\x6c\x07"+strings.Repeat("\xff", 237)+"\x0f"))
	wantLay(t, "the most, none in use", made(t, most), sealed("\x06\x6c\x07"))
	wantLay(t, "the last of the most", made(t, most, most-1), sealed("\x06\x6c\x07"+strings.Repeat("\x00", 237)+"\x08"))
}

func TestP1002Lay(t *testing.T) {
	for _, n := range sizes() {
		for _, used := range patterns(n) {
			r := made(t, n, used...)
			wantLay(t, "laid", r, sealed(body(n, used...)))
			wantLay(t, "laid again", r, sealed(body(n, used...)))
			wantRoom(t, "behind Lay", r, n, used...)
		}
	}
	for n := 1; n <= most; n++ {
		wantLay(t, "the last in use", made(t, n, n-1), sealed(body(n, n-1)))
	}
	for at := range most {
		wantLay(t, "one in use", made(t, most, at), sealed(body(most, at)))
	}
}

func TestP1002LayBehindTakeAndGive(t *testing.T) {
	for _, n := range sizes() {
		r := made(t, n)
		for at := range n {
			wantTake(t, "each", r, at)
		}
		wantLay(t, "all taken", r, sealed(body(n, each(n)...)))
		wantGive(t, "the first half", r, n/2, each(n/2)...)
		wantLay(t, "half given back", r, sealed(body(n, but(n, each(n/2)...)...)))
		wantGive(t, "all", r, n-n/2, each(n)...)
		wantLay(t, "all given back", r, sealed(body(n)))
		wantLay(t, "a copy", r.Copy(), sealed(body(n)))
	}
}

func TestP1002LayOfNone(t *testing.T) {
	var none *Room
	for _, r := range []*Room{none, new(Room)} {
		if b, e := r.Lay(); b != "" || e != api.ErrArg {
			t.Errorf("%v: %x, %d, not ErrArg", r, b, e)
		}
	}
}

// P1002: Read.

func TestP1002ReadWhatWasLaid(t *testing.T) {
	for _, n := range sizes() {
		for _, used := range patterns(n) {
			b, e := made(t, n, used...).Lay()
			if e != api.OK {
				t.Fatalf("of %d sectors: %d", n, e)
			}
			wantRead(t, "laid", b, n, used...)
			wantRead(t, "laid by hand", sealed(body(n, used...)), n, used...)
		}
	}
	for n := 1; n <= most; n++ {
		if r, e := Read(sealed(body(n, n-1))); e != api.OK || r.Size() != n || r.Free() != n-1 || !r.Used(n-1) {
			t.Errorf("of %d sectors, the last in use: %v, %d", n, r.All(), e)
		}
	}
}

func TestP1002ReadGoesOn(t *testing.T) {
	b := sealed(body(9, 0, 2))
	one, _ := Read(b)
	two, _ := Read(b)
	wantTake(t, "of the one", one, 1)
	wantTake(t, "of the one", one, 3)
	wantGive(t, "of the one", one, 1, 0)
	wantRoom(t, "the one", one, 9, 1, 2, 3)
	wantRoom(t, "the other", two, 9, 0, 2)
	wantLay(t, "the one", one, sealed(body(9, 1, 2, 3)))
	wantLay(t, "the other", two, b)
}

func TestP1002ReadAnotherLength(t *testing.T) {
	for _, b := range []string{sealed(body(19, 0, 3, 8, 18)), sealed(body(most, each(most)...)), sealed("\x07"), sample.Bytes(256)} {
		for n := range api.Sector {
			wantFault(t, "fewer", api.ErrShort, b[:n])
		}
		for _, n := range []int{1, 2, 4, 256, 65536} {
			wantFault(t, "zero bytes more", api.ErrShort, b+strings.Repeat("\x00", n))
			wantFault(t, "more", api.ErrShort, b+sample.Bytes(n))
			wantFault(t, "more ahead", api.ErrShort, sample.Bytes(n)+b)
		}
		wantFault(t, "two of them", api.ErrShort, b+b)
	}
	short := "\x06\x13\x00\x09\x01\x04" // sealed, in another number of bytes
	for _, n := range []int{20, 251, 252, 253, 300} {
		short += strings.Repeat("\x00", n-len(short))
		x := crc32.ChecksumIEEE([]byte(short))
		s := short + string([]byte{byte(x), byte(x >> 8), byte(x >> 16), byte(x >> 24)})
		if len(s) == api.Sector {
			wantRead(t, "a sector", s, 19, 0, 3, 8, 18)
		} else {
			wantFault(t, "sealed, but no sector", api.ErrShort, s)
		}
	}
}

func TestP1002ReadZeroBytes(t *testing.T) {
	zero := strings.Repeat("\x00", 1000)
	wantFault(t, "a sector of zero bytes", api.ErrSum, zero[:256])
	for _, n := range []int{0, 1, 4, 252, 255, 257, 512, 1000} {
		wantFault(t, "zero bytes", api.ErrShort, zero[:n])
	}
	wantFault(t, "zero bytes, sealed", api.ErrForm, sealed(""))
}

func TestP1002ReadOneByteChanged(t *testing.T) {
	for _, used := range [][]int{nil, {0, 3, 8, 18}, each(19)} {
		b := []byte(sealed(body(19, used...)))
		for k := range b {
			for by := 1; by < 256; by++ {
				b[k] ^= byte(by)
				wantFault(t, "changed", api.ErrSum, string(b))
				b[k] ^= byte(by)
			}
		}
		wantRead(t, "changed back", string(b), 19, used...)
	}
	for _, b := range []string{sample.Bytes(256), strings.Repeat("\xff", 256), strings.Repeat("\x06", 256)} {
		wantFault(t, "no sum", api.ErrSum, b)
	}
}

func TestP1002ReadAnotherKind(t *testing.T) {
	for _, b := range []string{body(1), body(19, 0, 3, 8, 18), body(most, each(most)...)} {
		for kind := range 256 {
			s := sealed(string([]byte{byte(kind)}) + b[1:])
			if _, e := Read(s); kind == api.Free && e != api.OK {
				t.Errorf("the kind: %d", e)
			} else if kind != api.Free {
				wantFault(t, "another kind", api.ErrForm, s)
			}
		}
	}
}

func TestP1002ReadAnotherSize(t *testing.T) {
	for n := range 1 << 16 {
		b := sealed(string([]byte{6, byte(n), byte(n >> 8)}))
		if n == 0 || n > most {
			wantFault(t, "a size that may not be", api.ErrForm, b)
		} else if r, e := Read(b); e != api.OK || r.Size() != n || r.Free() != n {
			t.Errorf("of %d sectors: %d of which %d are not in use, %d", n, r.Size(), r.Free(), e)
		}
	}
	for _, n := range []int{0, 1901, 1904, 1905, 1992, 2000, 65535} {
		for _, bits := range []string{"\x01", "\xff", strings.Repeat("\xff", 238), strings.Repeat("\xff", 249)} {
			wantFault(t, "a size that may not be, and bits", api.ErrForm, sealed(string([]byte{6, byte(n), byte(n >> 8)})+bits))
		}
	}
	wantFault(t, "the kind alone", api.ErrForm, sealed("\x06"))
	wantFault(t, "one more than the most", api.ErrForm, sealed("\x06\x6d\x07"))
}

func TestP1002ReadABitBehindTheLastSector(t *testing.T) {
	for _, n := range sizes() {
		for _, used := range [][]int{nil, each(n)} {
			b := []byte(sealed(body(n, used...)))[:252]
			for at := n; at < 8*(252-3); at++ {
				b[3+at/8] ^= 1 << (at % 8)
				wantFault(t, "a bit behind the last sector", api.ErrForm, sealed(string(b)))
				b[3+at/8] ^= 1 << (at % 8)
			}
			wantRead(t, "without it", sealed(string(b)), n, used...)
		}
	}
	wantFault(t, "all bits of the last byte", api.ErrForm, sealed("\x06\x13\x00\x09\x01\x0c"))
}

func TestP1002ReadSomethingBehind(t *testing.T) {
	for _, n := range sizes() {
		b := body(n, n-1)
		for k := len(b); k < 252; k++ {
			for _, by := range []string{"\x01", "\x06", "\x80", "\xff"} {
				wantFault(t, "something behind", api.ErrForm, sealed(b+strings.Repeat("\x00", k-len(b))+by))
			}
		}
	}
}

// P1002: which error comes first.

func TestP1002FirstError(t *testing.T) {
	b := []byte(sealed(body(19, 0, 3)))
	b[0]++
	wantFault(t, "another length, no sum, another kind", api.ErrShort, string(b[:255]))
	wantFault(t, "no sum, another kind", api.ErrSum, string(b))
	wantFault(t, "fewer bytes than a sum", api.ErrShort, "abc")
	b = []byte(sealed("\x06\x00\x00"))
	b[200]++
	wantFault(t, "no sum, a size that may not be", api.ErrSum, string(b))
}

// P1002: what was read does not hang on the bytes that were handed in.

func TestP1002ReadIsItsOwn(t *testing.T) {
	s := []byte(sealed(body(9, 0, 2)))
	r, e := Read(unsafe.String(&s[0], len(s))) // a text that can be changed: what keeps it shows it
	if e != api.OK {
		t.Fatal(e)
	}
	for k := range s {
		s[k] = 0xff
	}
	wantRoom(t, "behind a change of what was handed in", r, 9, 0, 2)
	wantLay(t, "behind a change of what was handed in", r, sealed(body(9, 0, 2)))
}
