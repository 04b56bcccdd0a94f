package mast

import (
	"encoding/binary"
	"hash/crc32"
	"math"
	"testing"

	"windrow/api"
	"windrow/page"
	"windrow/rec"
)

// chance answers numbers that follow no simple pattern, the same in each run.
type chance uint64

func (c *chance) below(n int) int {
	*c = *c*6364136223846793005 + 1442695040888963407
	return int(uint64(*c) >> 32 % uint64(n))
}

// between answers a number from low to high: near an edge, or any one.
func (c *chance) between(low, high int) int {
	wide := high - low + 1
	switch c.below(4) {
	case 0:
		return low + c.below(3)%wide
	case 1:
		return high - c.below(3)%wide
	}
	return low + (c.below(1<<31)<<20+c.below(1<<20))%wide
}

// right answers a right mast.
func (c *chance) right() api.Mast {
	m := api.Mast{
		Foot:  c.below(2) == 1,
		Gen:   c.between(1, api.MaxNum),
		Epoch: c.between(1, api.MaxNum),
		Seq:   c.between(0, api.MaxNum),
		Pages: c.between(0, api.MaxBlock),
	}
	if m.Foot {
		m.Sum = uint32(c.between(0, math.MaxUint32))
	}
	return m
}

// fields are what a sector holds of a mast, each as wide as it is laid.
type fields struct {
	mark            byte
	gen, epoch, seq uint64
	pages, sum      uint32
	rest            [27]byte
}

// of answers the fields of a right mast.
func of(m api.Mast) fields {
	f := fields{mark: 0x81, gen: uint64(m.Gen), epoch: uint64(m.Epoch), seq: uint64(m.Seq), pages: uint32(m.Pages), sum: m.Sum}
	if m.Foot {
		f.mark = 0x82
	}
	return f
}

// sector lays fields as the chapter says, by the library's means.
func sector(f fields) api.Page {
	b := []byte{f.mark}
	for _, n := range []uint64{f.gen, f.epoch, f.seq} {
		b = binary.LittleEndian.AppendUint64(b, n)
	}
	for _, n := range []uint32{f.pages, f.sum} {
		b = binary.LittleEndian.AppendUint32(b, n)
	}
	b = append(b, f.rest[:]...)
	return summed(api.Page(append(b, 0, 0, 0, 0)))
}

// summed answers p with the right sum at its end.
func summed(p api.Page) api.Page {
	binary.LittleEndian.PutUint32(p[60:], crc32.ChecksumIEEE(p[:60]))
	return p
}

// isMast tells whether fields are a right mast's, by the chapter's words.
func isMast(f fields) bool {
	head := f.mark == 0x81 && f.sum == 0
	named := f.gen >= 1 && f.gen <= 1<<40 && f.epoch >= 1 && f.epoch <= 1<<40
	return (head || f.mark == 0x82) && named && f.seq <= 1<<40 && f.pages <= 4096 && f.rest == [27]byte{}
}

// edges answers right masts at each edge of each field.
func edges() []api.Mast {
	l := []api.Mast{}
	for _, foot := range []bool{false, true} {
		l = append(l,
			api.Mast{Foot: foot, Gen: 1, Epoch: 1},
			api.Mast{Foot: foot, Gen: 2, Epoch: 1},
			api.Mast{Foot: foot, Gen: 1, Epoch: 2},
			api.Mast{Foot: foot, Gen: api.MaxNum, Epoch: 1},
			api.Mast{Foot: foot, Gen: 1, Epoch: api.MaxNum},
			api.Mast{Foot: foot, Gen: 1, Epoch: 1, Seq: 1},
			api.Mast{Foot: foot, Gen: 1, Epoch: 1, Seq: api.MaxNum},
			api.Mast{Foot: foot, Gen: 1, Epoch: 1, Pages: 1},
			api.Mast{Foot: foot, Gen: 1, Epoch: 1, Pages: api.MaxBlock},
			api.Mast{Foot: foot, Gen: api.MaxNum, Epoch: api.MaxNum, Seq: api.MaxNum, Pages: api.MaxBlock},
		)
	}
	for _, sum := range []uint32{1, math.MaxInt32, 1 << 31, math.MaxUint32 - 1, math.MaxUint32} {
		l = append(l, api.Mast{Foot: true, Gen: 1, Epoch: 1, Sum: sum})
	}
	return append(l, api.Mast{Foot: true, Gen: api.MaxNum, Epoch: api.MaxNum, Seq: api.MaxNum, Pages: api.MaxBlock, Sum: math.MaxUint32})
}

// wrongs answers masts each of which is wrong in one thing.
func wrongs() []api.Mast {
	l := []api.Mast{
		{},
		{Gen: 1, Epoch: 1, Sum: 1},
		{Gen: 1, Epoch: 1, Pages: 1, Sum: math.MaxUint32},
	}
	far := []int{-1, -1 << 32, 1 - 1<<40, 1<<40 + 1, 1<<41 + 1, 1<<56 + 1, math.MaxInt, math.MinInt, math.MinInt + 1}
	for _, foot := range []bool{false, true} {
		for _, n := range append([]int{0}, far...) {
			l = append(l,
				api.Mast{Foot: foot, Gen: n, Epoch: 1},
				api.Mast{Foot: foot, Gen: 1, Epoch: n},
			)
		}
		for _, n := range far {
			l = append(l, api.Mast{Foot: foot, Gen: 1, Epoch: 1, Seq: n})
		}
		for _, n := range append([]int{api.MaxBlock + 1, 1 << 13, 1 << 31, 1 << 32, 1<<32 + 1}, far...) {
			l = append(l, api.Mast{Foot: foot, Gen: 1, Epoch: 1, Pages: n})
		}
	}
	return l
}

// refused holds that p, whose sum is right, is neither a mast's nor a measure's
// sector, and that a wrong sum is told first.
func refused(t *testing.T, p api.Page) {
	t.Helper()
	noMast(t, p)
	noMeasure(t, p)
}

// noMast holds that p, whose sum is right, is no mast's sector, and that a
// wrong sum is told first.
func noMast(t *testing.T, p api.Page) {
	t.Helper()
	if got, e := Read(p); got != (api.Mast{}) || e != api.ErrBytes {
		t.Errorf("% x: %v %d", p, got, e)
	}
	p[60]++
	if got, e := Read(p); got != (api.Mast{}) || e != api.ErrSum {
		t.Errorf("% x: %v %d, its sum being wrong", p, got, e)
	}
}

// P8.1: which masts are right.
func TestRight(t *testing.T) {
	for _, m := range edges() {
		if !Right(m) {
			t.Errorf("%v is right", m)
		}
	}
	for _, m := range wrongs() {
		if Right(m) {
			t.Errorf("%v is wrong", m)
		}
	}
}

// P8.1: the chapter's example, its head, and sectors in which each byte is
// another's.
func TestLayByHand(t *testing.T) {
	long := api.Page{
		0: 0x82,
		1: 1, 2: 2, 3: 3, 4: 4, 5: 5,
		9: 6, 10: 7, 11: 8, 12: 9, 13: 10,
		17: 11, 18: 12, 19: 13, 20: 14, 21: 15,
		25: 16, 26: 13,
		29: 17, 30: 18, 31: 19, 32: 255,
	}
	head := long
	head[0], head[29], head[30], head[31], head[32] = 0x81, 0, 0, 0, 0
	for _, c := range []struct {
		m api.Mast
		p api.Page
	}{
		{
			api.Mast{Foot: true, Gen: 1, Epoch: 1, Pages: 1},
			api.Page{0: 0x82, 1: 1, 9: 1, 25: 1, 60: 0x25, 61: 0xf2, 62: 0x36, 63: 0xff},
		},
		{
			api.Mast{Gen: 1, Epoch: 1, Pages: 1},
			api.Page{0: 0x81, 1: 1, 9: 1, 25: 1, 60: 0xf5, 61: 0x67, 62: 0x33, 63: 0x7b},
		},
		{
			api.Mast{Foot: true, Gen: 0x0504030201, Epoch: 0x0a09080706, Seq: 0x0f0e0d0c0b, Pages: 0x0d10, Sum: 0xff131211},
			summed(long),
		},
		{
			api.Mast{Gen: 0x0504030201, Epoch: 0x0a09080706, Seq: 0x0f0e0d0c0b, Pages: 0x0d10},
			summed(head),
		},
	} {
		if got := Lay(c.m); got != c.p {
			t.Errorf("%v: % x, want % x", c.m, got, c.p)
		}
		if got, e := Read(c.p); got != c.m || e != api.OK {
			t.Errorf("% x: %v %d", c.p, got, e)
		}
	}
}

// P8.1, P8.2: what was laid is where the chapter says, and is read as it was.
func TestLaidIsRead(t *testing.T) {
	l, c := edges(), chance(8)
	for range 5000 {
		l = append(l, c.right())
	}
	for _, m := range l {
		p := Lay(m)
		if want := sector(of(m)); p != want {
			t.Fatalf("%v: % x, want % x", m, p, want)
		}
		if got, e := Read(p); got != m || e != api.OK {
			t.Fatalf("%v: read as %v, %d", m, got, e)
		}
	}
}

// P8.1: each bit of a sector that is turned makes its sum wrong.
func TestReadOfTurnedBits(t *testing.T) {
	for _, m := range edges() {
		for i := range api.Sector * 8 {
			p := Lay(m)
			p[i/8] ^= 1 << (i % 8)
			if got, e := Read(p); got != (api.Mast{}) || e != api.ErrSum {
				t.Fatalf("%v, bit %d: %v %d", m, i, got, e)
			}
		}
	}
}

// P8.1: a sector of which a crash left only the first bytes.
func TestReadOfTornSectors(t *testing.T) {
	p := Lay(api.Mast{Foot: true, Gen: 3, Epoch: 4, Seq: 500, Pages: 6, Sum: 0x11223344})
	for n := range api.Sector {
		var torn api.Page
		copy(torn[:], p[:n])
		if got, e := Read(torn); got != (api.Mast{}) || e != api.ErrSum {
			t.Errorf("%d bytes: %v %d", n, got, e)
		}
	}
}

// P8.1: no other first byte is a mast's; a foot without a sum may be a head.
func TestReadOfOtherMarks(t *testing.T) {
	for _, m := range edges() {
		for mark := range 256 {
			f := of(m)
			f.mark = byte(mark)
			if !isMast(f) {
				refused(t, sector(f))
			}
		}
		other := m
		other.Foot = !m.Foot
		f := of(other)
		if got, e := Read(sector(f)); Right(other) && (got != other || e != api.OK) {
			t.Errorf("%v: %v %d", other, got, e)
		}
	}
}

// P8.1: a head has no sum, whichever of its bits is set.
func TestReadOfHeadsWithSums(t *testing.T) {
	for _, m := range edges() {
		for i := range 32 {
			f := of(m)
			f.mark, f.sum = 0x81, 1<<i
			refused(t, sector(f))
		}
	}
}

// P8.1: numbers that are no mast's, but for which a sector's bytes have room;
// each bit of a number counts.
func TestReadOfWrongNumbers(t *testing.T) {
	great := []uint64{1<<40 + 1, 1<<41 - 1, 1 << 63, 1<<63 + 1, math.MaxUint64}
	for i := 41; i < 64; i++ {
		great = append(great, 1<<i, 1<<i|1)
	}
	wide := []uint32{4097, 8191, math.MaxUint32}
	for i := 13; i < 32; i++ {
		wide = append(wide, 1<<i, 1<<i|1)
	}
	for _, m := range edges() {
		for _, n := range append([]uint64{0}, great...) {
			f, g := of(m), of(m)
			f.gen, g.epoch = n, n
			refused(t, sector(f))
			refused(t, sector(g))
		}
		for _, n := range great {
			f := of(m)
			f.seq = n
			refused(t, sector(f))
		}
		for _, n := range wide {
			f := of(m)
			f.pages = n
			refused(t, sector(f))
		}
	}
}

// P8.1, P8.2: where noughts should stand, nothing else does.
func TestReadOfWhatIsNoNought(t *testing.T) {
	for _, m := range edges() {
		for i := range 27 * 8 {
			f := of(m)
			f.rest[i/8] = 1 << (i % 8)
			refused(t, sector(f))
		}
	}
}

// P8.1: sectors that nobody laid.
func TestReadOfForeignSectors(t *testing.T) {
	foreign := []api.Page{{}, {0: 0x81}, {0: 0x82}, {0: 0x83}, {63: 1}}
	var ones api.Page
	for i := range ones {
		ones[i] = 0xff
	}
	for _, p := range append(foreign, ones) {
		if got, e := Read(p); got != (api.Mast{}) || e != api.ErrSum {
			t.Errorf("% x: %v %d", p, got, e)
		}
		if got, e := ReadGeom(p); got != (api.Geom{}) || e != api.ErrSum {
			t.Errorf("% x: %v %d", p, got, e)
		}
		refused(t, summed(p))
	}
}

// P8.1, P8.2: what is read was laid in one way, whatever stands in the sector.
func TestReadOfAnyFields(t *testing.T) {
	c, held := chance(81), 0
	for range 40000 {
		f := of(c.right())
		switch c.below(9) {
		case 0:
			f.mark = byte(0x7f + c.below(6))
		case 1:
			f.gen = uint64(c.below(2)) << c.below(64)
		case 2:
			f.epoch = uint64(c.below(2)) << c.below(64)
		case 3:
			f.seq = uint64(c.below(2)) << c.below(64)
		case 4:
			f.pages = uint32(c.below(2)) << c.below(32)
		case 5:
			f.sum = uint32(c.below(2)) << c.below(32)
		case 6:
			f.rest[c.below(27)] = byte(c.below(2))
		}
		p := sector(f)
		m, e := Read(p)
		if want := isMast(f); want != (e == api.OK) {
			t.Fatalf("%v: %d", f, e)
		}
		if e == api.OK {
			held++
			if of(m) != f || Lay(m) != p || !Right(m) {
				t.Fatalf("%v: read as %v", f, m)
			}
		} else if m != (api.Mast{}) || e != api.ErrBytes {
			t.Fatalf("%v: %v %d", f, m, e)
		}
	}
	if held < 10000 || held > 36000 {
		t.Errorf("%d sectors held", held)
	}
}

// P8.2: unlike masts have unlike sectors.
func TestUnlikeMasts(t *testing.T) {
	c, by := chance(82), map[api.Page]api.Mast{}
	l := edges()
	for range 500 {
		m := c.right()
		l = append(append(l, m), near(m)...)
	}
	for _, m := range l {
		if !Right(m) {
			continue
		}
		p := Lay(m)
		if o, ok := by[p]; ok && o != m {
			t.Fatalf("%v and %v have one sector", o, m)
		}
		by[p] = m
	}
}

// near answers masts that differ from m in one bit of one field, or in the
// order of two.
func near(m api.Mast) []api.Mast {
	all := []api.Mast{}
	for i := range 41 {
		for _, bit := range []api.Mast{{Gen: 1 << i}, {Epoch: 1 << i}, {Seq: 1 << i}, {Pages: 1 << i}, {Sum: 1 << (i % 32)}} {
			n := m
			n.Gen, n.Epoch, n.Seq = m.Gen^bit.Gen, m.Epoch^bit.Epoch, m.Seq^bit.Seq
			n.Pages, n.Sum = m.Pages^bit.Pages, m.Sum^bit.Sum
			all = append(all, n)
		}
	}
	a, b, c, d := m, m, m, m
	a.Foot = !m.Foot
	b.Gen, b.Epoch = m.Epoch, m.Gen
	c.Gen, c.Seq = m.Seq, m.Gen
	d.Epoch, d.Seq = m.Seq, m.Epoch
	return append(all, a, b, c, d)
}

// P8.2: no mast's sector is a measure's, a leaf's or a record's.
func TestNoMastIsAnother(t *testing.T) {
	l, c := edges(), chance(83)
	for range 2000 {
		l = append(l, c.right())
	}
	for _, m := range l {
		noMeasure(t, Lay(m))
		noLeafNoRecord(t, Lay(m))
	}
}

// noLeafNoRecord holds that p, whose sum is right, is neither a leaf's nor a
// record's sector.
func noLeafNoRecord(t *testing.T, p api.Page) {
	t.Helper()
	if l, e := page.Read(p); l != (api.Leaf{}) || e != api.ErrBytes {
		t.Errorf("% x: %v %d", p, l, e)
	}
	if r, e := rec.Read(p); r != (api.Rec{}) || e != api.ErrBytes {
		t.Errorf("% x: %v %d", p, r, e)
	}
}

// P8.2: no leaf's sector is a mast's or a measure's.
func TestNoLeafIsOurs(t *testing.T) {
	c := chance(84)
	for range 2000 {
		l := api.Leaf{Gen: c.between(1, api.MaxNum), Index: c.between(0, api.MaxBlock)}
		for i := range l.Places {
			l.Places[i] = c.between(0, math.MaxUint32)
		}
		refused(t, page.Lay(l))
	}
}

// P8.2: no record's sector is a mast's or a measure's.
func TestNoRecordIsOurs(t *testing.T) {
	c := chance(85)
	for range 2000 {
		r := api.Rec{Kind: 1 + c.below(3), Epoch: c.between(1, api.MaxNum), Seq: c.between(1, api.MaxNum), Block: c.below(2)}
		switch r.Kind {
		case api.Put:
			for i := range r.Data {
				r.Data[i] = byte(c.below(256))
			}
		case api.Commit:
			r.Count = c.between(0, api.MaxBlock)
		}
		if !rec.Right(r) {
			t.Fatalf("%v isn't right", r)
		}
		refused(t, rec.Lay(r))
	}
}

// P1: no call panics, whatever the mast; a wrong one has no sector that could
// be read.
func TestLayOfWrongMasts(t *testing.T) {
	for _, m := range wrongs() {
		if got, e := Read(Lay(m)); got != (api.Mast{}) || e == api.OK {
			t.Errorf("%v: %v %d", m, got, e)
		}
	}
}
