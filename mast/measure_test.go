package mast

import (
	"encoding/binary"
	"math"
	"testing"

	"windrow/api"
	"windrow/geom"
)

// form is what a sector holds of a measure, each number as wide as it is laid:
// Conv, Soft, Seq, Size, Open.
type form struct {
	mark    byte
	numbers [5]uint32
	rest    [39]byte
}

// formOf answers what the sector of a measure holds.
func formOf(g api.Geom) form {
	return form{0x83, [5]uint32{uint32(g.Conv), uint32(g.Soft), uint32(g.Seq), uint32(g.Size), uint32(g.Open)}, [39]byte{}}
}

// measureSector lays a form as the chapter says, by the library's means.
func measureSector(f form) api.Page {
	b := []byte{f.mark}
	for _, n := range f.numbers {
		b = binary.LittleEndian.AppendUint32(b, n)
	}
	b = append(b, f.rest[:]...)
	return summed(api.Page(append(b, 0, 0, 0, 0)))
}

// isMeasure tells whether a form is a right measure's, by the chapters' words.
func isMeasure(f form) bool {
	conv, soft, seq, size, open := int(f.numbers[0]), int(f.numbers[1]), int(f.numbers[2]), int(f.numbers[3]), int(f.numbers[4])
	if f.mark != 0x83 || f.rest != [39]byte{} || conv < 2 || seq < 6 || conv+seq > 64 || size < 8 || size > 256 {
		return false
	}
	pages := (min((seq-5)*(size/2), 4096) + 9) / 10
	return soft >= pages+3 && soft <= 1<<16 && open >= 3 && open <= 1<<31-1
}

// measure answers a right measure that has a sector.
func (c *chance) measure() api.Geom {
	seq := c.between(6, 62)
	g := api.Geom{Conv: c.between(2, 64-seq), Seq: seq, Size: c.between(8, 256), Open: c.between(3, math.MaxInt32)}
	g.Soft = c.between(geom.Pages(g)+3, 1<<16)
	return g
}

// measureEdges answers right measures at each edge of each number.
func measureEdges() []api.Geom {
	return []api.Geom{
		{Conv: 2, Soft: 4, Seq: 6, Size: 8, Open: 3},
		{Conv: 2, Soft: 8, Seq: 6, Size: 16, Open: 3},
		{Conv: 58, Soft: 4, Seq: 6, Size: 8, Open: 3},
		{Conv: 32, Soft: 14, Seq: 32, Size: 8, Open: 3},
		{Conv: 2, Soft: 26, Seq: 62, Size: 8, Open: 3},
		{Conv: 2, Soft: 16, Seq: 6, Size: 256, Open: 3},
		{Conv: 2, Soft: 413, Seq: 62, Size: 256, Open: 3},
		{Conv: 2, Soft: 1 << 16, Seq: 6, Size: 8, Open: 3},
		{Conv: 2, Soft: 4, Seq: 6, Size: 8, Open: 1 << 16},
		{Conv: 2, Soft: 4, Seq: 6, Size: 8, Open: math.MaxInt32 - 1},
		{Conv: 2, Soft: 4, Seq: 6, Size: 8, Open: math.MaxInt32},
		{Conv: 3, Soft: 9, Seq: 7, Size: 20, Open: math.MaxInt32},
		{Conv: 2, Soft: 1 << 16, Seq: 62, Size: 256, Open: math.MaxInt32},
	}
}

// noMeasure holds that p, whose sum is right, is no measure's sector, and that
// a wrong sum is told first.
func noMeasure(t *testing.T, p api.Page) {
	t.Helper()
	if got, e := ReadGeom(p); got != (api.Geom{}) || e != api.ErrBytes {
		t.Errorf("% x: %v %d", p, got, e)
	}
	p[63]++
	if got, e := ReadGeom(p); got != (api.Geom{}) || e != api.ErrSum {
		t.Errorf("% x: %v %d, its sum being wrong", p, got, e)
	}
}

// P8.1: a measure's sector, and one in which each byte is another's.
func TestLayGeomByHand(t *testing.T) {
	for _, c := range []struct {
		g api.Geom
		p api.Page
	}{
		{
			api.Geom{Conv: 2, Soft: 8, Seq: 6, Size: 16, Open: 3},
			api.Page{0: 0x83, 1: 2, 5: 8, 9: 6, 13: 16, 17: 3, 60: 0x92, 61: 0x99, 62: 0xf9, 63: 0x79},
		},
		{
			api.Geom{Conv: 4, Soft: 0x0805, Seq: 9, Size: 13, Open: 0x14131211},
			summed(api.Page{0: 0x83, 1: 4, 5: 5, 6: 8, 9: 9, 13: 13, 17: 17, 18: 18, 19: 19, 20: 20}),
		},
		{
			api.Geom{Conv: 2, Soft: 1 << 16, Seq: 62, Size: 256, Open: math.MaxInt32},
			summed(api.Page{0: 0x83, 1: 2, 7: 1, 9: 62, 14: 1, 17: 255, 18: 255, 19: 255, 20: 127}),
		},
	} {
		if got := LayGeom(c.g); got != c.p {
			t.Errorf("%v: % x, want % x", c.g, got, c.p)
		}
		if got, e := ReadGeom(c.p); got != c.g || e != api.OK {
			t.Errorf("% x: %v %d", c.p, got, e)
		}
	}
}

// P8.1, P8.2: what was laid is where the chapter says, and is read as it was.
func TestLaidGeomIsRead(t *testing.T) {
	l, c := measureEdges(), chance(86)
	for range 5000 {
		l = append(l, c.measure())
	}
	for _, g := range l {
		if !geom.Right(g) {
			t.Fatalf("%v isn't right", g)
		}
		p := LayGeom(g)
		if want := measureSector(formOf(g)); p != want {
			t.Fatalf("%v: % x, want % x", g, p, want)
		}
		if got, e := ReadGeom(p); got != g || e != api.OK {
			t.Fatalf("%v: read as %v, %d", g, got, e)
		}
	}
}

// P8.1: each bit of a sector that is turned makes its sum wrong.
func TestReadGeomOfTurnedBits(t *testing.T) {
	for _, g := range measureEdges() {
		for i := range api.Sector * 8 {
			p := LayGeom(g)
			p[i/8] ^= 1 << (i % 8)
			if got, e := ReadGeom(p); got != (api.Geom{}) || e != api.ErrSum {
				t.Fatalf("%v, bit %d: %v %d", g, i, got, e)
			}
		}
	}
}

// P8.1: a sector of which a crash left only the first bytes.
func TestReadGeomOfTornSectors(t *testing.T) {
	p := LayGeom(api.Geom{Conv: 3, Soft: 9, Seq: 7, Size: 20, Open: math.MaxInt32})
	for n := range api.Sector {
		var torn api.Page
		copy(torn[:], p[:n])
		if got, e := ReadGeom(torn); got != (api.Geom{}) || e != api.ErrSum {
			t.Errorf("%d bytes: %v %d", n, got, e)
		}
	}
}

// P8.1: no other first byte is a measure's.
func TestReadGeomOfOtherMarks(t *testing.T) {
	for _, g := range measureEdges() {
		for mark := range 256 {
			f := formOf(g)
			f.mark = byte(mark)
			if mark != 0x83 {
				noMeasure(t, measureSector(f))
			}
		}
	}
}

// P8.1: measures that aren't right, one step beyond each edge.
func TestReadGeomBeyondTheEdges(t *testing.T) {
	for _, n := range [][5]uint32{
		{},
		{0, 4, 6, 8, 3},
		{1, 4, 6, 8, 3},
		{59, 4, 6, 8, 3},
		{math.MaxUint32, 4, 6, 8, 3},
		{math.MaxUint32 - 5, 4, 8, 8, 3},
		{2, 0, 6, 8, 3},
		{2, 3, 6, 8, 3},
		{2, 412, 62, 256, 3},
		{2, 1<<16 + 1, 6, 8, 3},
		{2, math.MaxUint32, 6, 8, 3},
		{2, 4, 0, 8, 3},
		{2, 4, 5, 8, 3},
		{2, 1000, 63, 8, 3},
		{2, 1000, math.MaxUint32, 8, 3},
		{2, 4, 6, 0, 3},
		{2, 4, 6, 7, 3},
		{2, 1000, 6, 257, 3},
		{2, 1000, 6, math.MaxUint32, 3},
		{2, 4, 6, 8, 0},
		{2, 4, 6, 8, 2},
		{2, 4, 6, 8, 1 << 31},
		{2, 4, 6, 8, 1<<31 + 3},
		{2, 4, 6, 8, math.MaxUint32},
	} {
		refused(t, measureSector(form{mark: 0x83, numbers: n}))
	}
}

// P8.1, P8.2: where noughts should stand, nothing else does.
func TestReadGeomOfWhatIsNoNought(t *testing.T) {
	for _, g := range measureEdges() {
		for i := range 39 * 8 {
			f := formOf(g)
			f.rest[i/8] = 1 << (i % 8)
			refused(t, measureSector(f))
		}
	}
}

// P8.1, P8.2: what is read was laid in one way, whatever stands in the sector.
func TestReadGeomOfAnyForm(t *testing.T) {
	c, held := chance(87), 0
	for range 40000 {
		f := formOf(c.measure())
		switch c.below(5) {
		case 0:
			f.mark = byte(0x81 + c.below(4))
		case 1:
			f.numbers[c.below(5)] = uint32(c.below(2)) << c.below(32)
		case 2:
			f.numbers[c.below(5)] ^= 1 << c.below(32)
		case 3:
			f.rest[c.below(39)] = byte(c.below(2))
		}
		p := measureSector(f)
		g, e := ReadGeom(p)
		if want := isMeasure(f); want != (e == api.OK) {
			t.Fatalf("%v: %d", f, e)
		}
		if e == api.OK {
			held++
			if formOf(g) != f || LayGeom(g) != p || !geom.Right(g) {
				t.Fatalf("%v: read as %v", f, g)
			}
		} else if g != (api.Geom{}) || e != api.ErrBytes {
			t.Fatalf("%v: %v %d", f, g, e)
		}
	}
	if held < 10000 || held > 36000 {
		t.Errorf("%d sectors held", held)
	}
}

// P8.2: unlike measures have unlike sectors, those too that differ in one bit
// of one number alone.
func TestUnlikeMeasures(t *testing.T) {
	c, by := chance(88), map[api.Page]api.Geom{}
	l := measureEdges()
	for range 1000 {
		g := c.measure()
		l = append(l, g)
		for i := range 31 {
			for _, bit := range []api.Geom{{Conv: 1 << i}, {Soft: 1 << i}, {Seq: 1 << i}, {Size: 1 << i}, {Open: 1 << i}} {
				l = append(l, api.Geom{Conv: g.Conv ^ bit.Conv, Soft: g.Soft ^ bit.Soft, Seq: g.Seq ^ bit.Seq, Size: g.Size ^ bit.Size, Open: g.Open ^ bit.Open})
			}
		}
	}
	for _, g := range l {
		if !geom.Right(g) {
			continue
		}
		p := LayGeom(g)
		if o, ok := by[p]; ok && o != g {
			t.Fatalf("%v and %v have one sector", o, g)
		}
		by[p] = g
	}
}

// P8.2: no measure's sector is a mast's, a leaf's or a record's.
func TestNoMeasureIsAnother(t *testing.T) {
	l, c := measureEdges(), chance(89)
	for range 2000 {
		l = append(l, c.measure())
	}
	for _, g := range l {
		noMast(t, LayGeom(g))
		noLeafNoRecord(t, LayGeom(g))
	}
}

// P8.1, P1: no call panics, whatever the measure; one that isn't right, or is
// open too wide, has no sector that could be read.
func TestLayGeomOfWhatHasNone(t *testing.T) {
	l := []api.Geom{
		{},
		{Conv: 1, Soft: 4, Seq: 6, Size: 8, Open: 3},
		{Conv: 2, Soft: 3, Seq: 6, Size: 8, Open: 3},
		{Conv: 2, Soft: 4, Seq: 6, Size: 8, Open: 2},
		{Conv: 2, Soft: 1 << 32, Seq: 6, Size: 8, Open: 3},
		{Conv: 2 - 1<<32, Soft: 4, Seq: 6, Size: 8, Open: 3},
		{Conv: math.MaxInt, Soft: math.MaxInt, Seq: math.MaxInt, Size: math.MaxInt, Open: math.MaxInt},
		{Conv: math.MinInt, Soft: math.MinInt, Seq: math.MinInt, Size: math.MinInt, Open: math.MinInt},
	}
	for _, open := range []int{math.MaxInt32 + 1, math.MaxUint32, 1 << 32, 1<<32 + 3, math.MaxInt, -1, math.MinInt + 3} {
		l = append(l, api.Geom{Conv: 2, Soft: 4, Seq: 6, Size: 8, Open: open})
	}
	for _, g := range l {
		if got, e := ReadGeom(LayGeom(g)); got != (api.Geom{}) || e == api.OK {
			t.Errorf("%v: %v %d", g, got, e)
		}
	}
}
