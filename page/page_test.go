package page

import (
	"encoding/binary"
	"hash/crc32"
	"math"
	"testing"

	"windrow/api"
	"windrow/rec"
)

// chance answers numbers that follow no simple pattern, the same in each run.
type chance uint64

func (c *chance) below(n int) int {
	*c = *c*6364136223846793005 + 1442695040888963407
	return int(uint64(*c) >> 32 % uint64(n))
}

// between answers a number from low to high: near an edge, or any one.
func (c *chance) between(low, high int) int {
	switch c.below(4) {
	case 0:
		return low + c.below(3)
	case 1:
		return high - c.below(3)
	}
	return low + (c.below(1<<31)<<20+c.below(1<<20))%(high-low+1)
}

// right answers a right leaf.
func (c *chance) right() api.Leaf {
	l := api.Leaf{Gen: c.between(1, api.MaxNum), Index: c.between(0, api.MaxBlock)}
	for i := range l.Places {
		l.Places[i] = c.between(0, greatest)
	}
	return l
}

// greatest is the greatest number of a place.
const greatest = 1<<32 - 1

// fields are what a sector holds of a leaf, each as wide as it is laid.
type fields struct {
	mark   byte
	gen    uint64
	index  uint32
	places [10]uint32
	rest   [7]byte
}

// of answers the fields of a right leaf.
func of(l api.Leaf) fields {
	f := fields{mark: 0x80, gen: uint64(l.Gen), index: uint32(l.Index)}
	for i, n := range l.Places {
		f.places[i] = uint32(n)
	}
	return f
}

// sector lays fields as the chapter says, by the library's means.
func sector(f fields) api.Page {
	b := []byte{f.mark}
	b = binary.LittleEndian.AppendUint64(b, f.gen)
	b = binary.LittleEndian.AppendUint32(b, f.index)
	for _, n := range f.places {
		b = binary.LittleEndian.AppendUint32(b, n)
	}
	b = append(b, f.rest[:]...)
	return sealed(api.Page(append(b, 0, 0, 0, 0)))
}

// sealed answers p with the right sum at its end.
func sealed(p api.Page) api.Page {
	binary.LittleEndian.PutUint32(p[60:], crc32.ChecksumIEEE(p[:60]))
	return p
}

// isLeaf tells whether fields are a right leaf's, by the chapter's words.
func isLeaf(f fields) bool {
	return f.mark == 0x80 && f.gen >= 1 && f.gen <= 1<<40 && f.index <= 4096 && f.rest == [7]byte{}
}

// edges answers right leaves at each edge of each field.
func edges() []api.Leaf {
	l := []api.Leaf{
		{Gen: 1},
		{Gen: 2, Index: 1},
		{Gen: api.MaxNum},
		{Gen: 1, Index: api.MaxBlock},
		{Gen: api.MaxNum, Index: api.MaxBlock},
	}
	full := api.Leaf{Gen: api.MaxNum, Index: api.MaxBlock}
	for i := range full.Places {
		full.Places[i] = greatest
		for _, n := range []int{1, 1<<31 - 1, 1 << 31, greatest - 1, greatest} {
			one := api.Leaf{Gen: 1}
			one.Places[i] = n
			l = append(l, one)
		}
	}
	return append(l, full)
}

// wrongs answers leaves each of which is wrong in one thing.
func wrongs() []api.Leaf {
	l := []api.Leaf{
		{},
		{Gen: -1},
		{Gen: api.MaxNum + 1},
		{Gen: 1<<56 + 1},
		{Gen: math.MaxInt},
		{Gen: math.MinInt},
		{Gen: math.MinInt + 1},
		{Gen: 1, Index: -1},
		{Gen: 1, Index: api.MaxBlock + 1},
		{Gen: 1, Index: 1 << 32},
		{Gen: 1, Index: math.MaxInt},
		{Gen: 1, Index: math.MinInt},
	}
	for i := range api.PerPage {
		for _, n := range []int{-1, -1 << 32, 1 - 1<<32, 1 << 32, 1<<32 + 1, 1 << 40, math.MaxInt, math.MinInt} {
			one := api.Leaf{Gen: 1, Places: [api.PerPage]int{1, 2, 3, 4, 5, 6, 7, 8, 9, 10}}
			one.Places[i] = n
			l = append(l, one)
		}
	}
	return l
}

// refused holds that p, whose sum is right, is no leaf's sector, and that a
// wrong sum is told first.
func refused(t *testing.T, p api.Page) {
	t.Helper()
	if got, e := Read(p); got != (api.Leaf{}) || e != api.ErrBytes {
		t.Errorf("% x: %v %d", p, got, e)
	}
	p[60]++
	if got, e := Read(p); got != (api.Leaf{}) || e != api.ErrSum {
		t.Errorf("% x: %v %d, its sum being wrong", p, got, e)
	}
}

// P7.1: which leaves are right.
func TestRight(t *testing.T) {
	for _, l := range edges() {
		if !Right(l) {
			t.Errorf("%v is right", l)
		}
	}
	for _, l := range wrongs() {
		if Right(l) {
			t.Errorf("%v is wrong", l)
		}
	}
}

// P7.1: the chapter's example, and a sector in which each byte is another's.
func TestLayByHand(t *testing.T) {
	for _, c := range []struct {
		l api.Leaf
		p api.Page
	}{
		{api.Leaf{Gen: 1}, api.Page{0: 0x80, 1: 0x01, 60: 0x21, 61: 0x0d, 62: 0x40, 63: 0xb4}},
		{
			api.Leaf{Gen: 0x0504030201, Index: 0x0706, Places: [api.PerPage]int{0x0b0a0908, 0x0f0e0d0c, 8: 0x13121110, 9: 0xff161514}},
			sealed(api.Page{
				0: 0x80,
				1: 1, 2: 2, 3: 3, 4: 4, 5: 5,
				9: 6, 10: 7,
				13: 8, 14: 9, 15: 10, 16: 11,
				17: 12, 18: 13, 19: 14, 20: 15,
				45: 16, 46: 17, 47: 18, 48: 19,
				49: 20, 50: 21, 51: 22, 52: 255,
			}),
		},
	} {
		if got := Lay(c.l); got != c.p {
			t.Errorf("%v: % x, want % x", c.l, got, c.p)
		}
		if got, e := Read(c.p); got != c.l || e != api.OK {
			t.Errorf("% x: %v %d", c.p, got, e)
		}
	}
}

// P7.1, P7.2: what was laid is where the chapter says, and is read as it was.
func TestLaidIsRead(t *testing.T) {
	l, c := edges(), chance(7)
	for range 5000 {
		l = append(l, c.right())
	}
	for _, x := range l {
		p := Lay(x)
		if want := sector(of(x)); p != want {
			t.Fatalf("%v: % x, want % x", x, p, want)
		}
		if got, e := Read(p); got != x || e != api.OK {
			t.Fatalf("%v: read as %v, %d", x, got, e)
		}
	}
}

// P7.1: each bit of a sector that is turned makes its sum wrong.
func TestReadOfTurnedBits(t *testing.T) {
	for _, l := range edges() {
		for i := range api.Sector * 8 {
			p := Lay(l)
			p[i/8] ^= 1 << (i % 8)
			if got, e := Read(p); got != (api.Leaf{}) || e != api.ErrSum {
				t.Fatalf("%v, bit %d: %v %d", l, i, got, e)
			}
		}
	}
}

// P7.1: a sector of which a crash left only the first bytes.
func TestReadOfTornSectors(t *testing.T) {
	p := Lay(api.Leaf{Gen: 3, Index: 300, Places: [api.PerPage]int{7, 9: greatest}})
	for n := range api.Sector {
		var torn api.Page
		copy(torn[:], p[:n])
		if got, e := Read(torn); got != (api.Leaf{}) || e != api.ErrSum {
			t.Errorf("%d bytes: %v %d", n, got, e)
		}
	}
}

// P7.1: no other first byte is a leaf's.
func TestReadOfOtherMarks(t *testing.T) {
	for _, l := range edges() {
		for mark := range 256 {
			f := of(l)
			f.mark = byte(mark)
			if mark != 0x80 {
				refused(t, sector(f))
			}
		}
	}
}

// P7.1: numbers that are no leaf's, but for which a sector's bytes have room;
// each bit of a number counts.
func TestReadOfWrongNumbers(t *testing.T) {
	for _, l := range edges() {
		for _, gen := range []uint64{0, 1<<40 + 1, 1 << 63, 1<<63 + 1, math.MaxUint64} {
			f := of(l)
			f.gen = gen
			refused(t, sector(f))
		}
		for i := 41; i < 64; i++ {
			f := of(l)
			f.gen |= 1 << i
			refused(t, sector(f))
		}
		for _, index := range []uint32{4097, 1 << 31, math.MaxUint32} {
			f := of(l)
			f.index = index
			refused(t, sector(f))
		}
		for i := 13; i < 32; i++ {
			f := of(l)
			f.index |= 1 << i
			refused(t, sector(f))
		}
	}
}

// P7.1, P7.2: where noughts should stand, nothing else does.
func TestReadOfWhatIsNoNought(t *testing.T) {
	for _, l := range edges() {
		for i := range 7 * 8 {
			f := of(l)
			f.rest[i/8] = 1 << (i % 8)
			refused(t, sector(f))
		}
	}
}

// P7.1: sectors that nobody laid.
func TestReadOfForeignSectors(t *testing.T) {
	foreign := []api.Page{{}, {0: 0x80}, {63: 1}}
	var ones api.Page
	for i := range ones {
		ones[i] = 0xff
	}
	for _, p := range append(foreign, ones) {
		if got, e := Read(p); got != (api.Leaf{}) || e != api.ErrSum {
			t.Errorf("% x: %v %d", p, got, e)
		}
		refused(t, sealed(p))
	}
}

// P7.1, P7.2: what is read was laid in one way, whatever stands in the sector.
func TestReadOfAnyFields(t *testing.T) {
	c, held := chance(71), 0
	for range 40000 {
		f := of(c.right())
		switch c.below(6) {
		case 0:
			f.mark = byte(0x7f + c.below(4))
		case 1:
			f.gen = uint64(c.below(2)) << c.below(64)
		case 2:
			f.index = uint32(c.below(2)) << c.below(32)
		case 3:
			f.places[c.below(10)] = uint32(c.below(1 << 32))
		case 4:
			f.rest[c.below(7)] = byte(c.below(2))
		}
		p := sector(f)
		l, e := Read(p)
		if want := isLeaf(f); want != (e == api.OK) {
			t.Fatalf("%v: %d", f, e)
		}
		if e == api.OK {
			held++
			if of(l) != f || Lay(l) != p || !Right(l) {
				t.Fatalf("%v: read as %v", f, l)
			}
		} else if l != (api.Leaf{}) || e != api.ErrBytes {
			t.Fatalf("%v: %v %d", f, l, e)
		}
	}
	if held < 10000 || held > 36000 {
		t.Errorf("%d sectors held", held)
	}
}

// P7.2: unlike leaves have unlike sectors.
func TestUnlikeLeaves(t *testing.T) {
	c, by := chance(72), map[api.Page]api.Leaf{}
	l := edges()
	for range 500 {
		x := c.right()
		l = append(append(l, x), near(x)...)
	}
	for _, x := range l {
		if !Right(x) {
			continue
		}
		p := Lay(x)
		if o, ok := by[p]; ok && o != x {
			t.Fatalf("%v and %v have one sector", o, x)
		}
		by[p] = x
	}
}

// near answers leaves that differ from l in one bit of one field, or in the
// order of two places.
func near(l api.Leaf) []api.Leaf {
	all := []api.Leaf{}
	for i := range 41 {
		n, m := l, l
		n.Gen ^= 1 << i
		m.Index ^= 1 << i
		all = append(all, n, m)
	}
	for at := range l.Places {
		for i := range 32 {
			n := l
			n.Places[at] ^= 1 << i
			all = append(all, n)
		}
		n, next := l, (at+1)%api.PerPage
		n.Places[at], n.Places[next] = n.Places[next], n.Places[at]
		all = append(all, n)
	}
	return all
}

// P7.2: no leaf's sector is a record's.
func TestNoLeafIsARecord(t *testing.T) {
	l, c := edges(), chance(73)
	for range 2000 {
		l = append(l, c.right())
	}
	for _, x := range l {
		if r, e := rec.Read(Lay(x)); r != (api.Rec{}) || e != api.ErrBytes {
			t.Fatalf("%v: %v %d", x, r, e)
		}
	}
}

// P7.2: no record's sector is a leaf's.
func TestNoRecordIsALeaf(t *testing.T) {
	c := chance(74)
	for range 2000 {
		r := api.Rec{Kind: 1 + c.below(3), Epoch: c.between(1, api.MaxNum), Seq: c.between(1, api.MaxNum), Block: c.below(2)}
		switch r.Kind {
		case api.Put:
			for i := range r.Data {
				r.Data[i] = byte(c.below(256))
			}
		case api.Commit:
			r.Count = c.between(0, api.MaxBlock)
		}
		if !rec.Right(r) {
			t.Fatalf("%v isn't right", r)
		}
		refused(t, rec.Lay(r))
	}
}

// P1: no call panics, whatever the leaf.
func TestLayOfWrongLeaves(t *testing.T) {
	for _, l := range wrongs() {
		Read(Lay(l))
	}
}
