package ckpt

import (
	"encoding/binary"
	"hash/crc32"
	"math"
	"slices"
	"testing"

	"windrow/api"
	"windrow/dev"
	"windrow/table"
)

// chance answers numbers that follow no simple pattern, the same in each run.
type chance uint64

func (c *chance) below(n int) int {
	*c = *c*6364136223846793005 + 1442695040888963407
	return int(uint64(*c) >> 32 % uint64(n))
}

// greatest is the greatest number of a place.
const greatest = 1<<32 - 1

// least is the smallest right measure: one page, of 4 blocks, and no sector of
// a conventional zone to spare.
var least = api.Geom{Conv: 2, Soft: 4, Seq: 6, Size: 8, Open: 3}

// two has two pages, both of them full; it is the shared tests' measure.
var two = api.Geom{Conv: 2, Soft: 6, Seq: 9, Size: 10, Open: 3}

// three has three pages, the last one of 4 blocks.
var three = api.Geom{Conv: 4, Soft: 6, Seq: 9, Size: 12, Open: 5}

// greatMeasure has the most blocks, in 410 pages, the last one of 6.
var greatMeasure = api.Geom{Conv: 2, Soft: 413, Seq: 62, Size: api.MaxSize, Open: 3}

// measures are right measures, with the least and the most of all kinds.
func measures() []api.Geom {
	return []api.Geom{least, two, three, {Conv: 58, Soft: 90, Seq: 6, Size: 21, Open: math.MaxInt}, greatMeasure}
}

// blocksOf tells how many blocks a measure has, by the chapter's words.
func blocksOf(g api.Geom) int { return min((g.Seq-5)*(g.Size/2), 4096) }

// pagesOf tells in how many pages these stand.
func pagesOf(g api.Geom) int {
	n := 0
	for first := 0; first < blocksOf(g); first += 10 {
		n++
	}
	return n
}

// commands tells how many commands a Write is: two Flushes, a head, the leaves,
// and a foot.
func commands(g api.Geom) int { return pagesOf(g) + 4 }

// head answers a right head of a measure; each Gen has an Epoch and a Seq of
// its own.
func head(g api.Geom, gen int) api.Mast {
	return api.Mast{Gen: gen, Epoch: gen/2 + 1, Seq: gen - 1, Pages: pagesOf(g)}
}

// some answers a place for each block: a few stand nowhere, all others at a
// place that n hangs on; which n hardly matters beyond a few.
func some(g api.Geom, n int) []int {
	l := make([]int, blocksOf(g))
	for block := range l {
		if (block+n)%7 != 0 {
			l[block] = (1+n%1000)*5000 + block
		}
	}
	return l
}

// tableWith answers a table whose blocks stand at these places.
func tableWith(places []int) *table.Table {
	t := table.New(len(places))
	for block, n := range places {
		t.Set(block, n)
	}
	return t
}

// summed answers p with the right sum at its end.
func summed(p api.Page) api.Page {
	binary.LittleEndian.PutUint32(p[60:], crc32.ChecksumIEEE(p[:60]))
	return p
}

// filled answers the sector that begins with these bytes: noughts behind them,
// and the sum.
func filled(b []byte) api.Page {
	var p api.Page
	copy(p[:60], b)
	return summed(p)
}

// mastSector lays a mast as chapter 8 says, by the library's means, be it right
// or not.
func mastSector(m api.Mast) api.Page {
	b := []byte{0x81}
	if m.Foot {
		b[0] = 0x82
	}
	for _, n := range []int{m.Gen, m.Epoch, m.Seq} {
		b = binary.LittleEndian.AppendUint64(b, uint64(n))
	}
	b = binary.LittleEndian.AppendUint32(b, uint32(m.Pages))
	return filled(binary.LittleEndian.AppendUint32(b, m.Sum))
}

// leafSector lays a leaf as chapter 7 says, by the library's means; places may
// be too few: the others are 0.
func leafSector(gen, index int, places []int) api.Page {
	b := []byte{0x80}
	b = binary.LittleEndian.AppendUint64(b, uint64(gen))
	b = binary.LittleEndian.AppendUint32(b, uint32(index))
	for _, n := range places {
		b = binary.LittleEndian.AppendUint32(b, uint32(n))
	}
	return filled(b)
}

// leavesOf answers the sectors of the leaves of these places.
func leavesOf(gen int, places []int) []api.Page {
	var l []api.Page
	for part := range slices.Chunk(places, 10) {
		l = append(l, leafSector(gen, len(l), part))
	}
	return l
}

// footOf answers the foot of a head and the sectors of its leaves.
func footOf(m api.Mast, leaves []api.Page) api.Mast {
	var all []byte
	for _, p := range leaves {
		all = append(all, p[:]...)
	}
	m.Foot, m.Sum = true, crc32.ChecksumIEEE(all)
	return m
}

// framed answers the sectors of a region: those of a head, of leaves, and of
// the foot of these.
func framed(m api.Mast, leaves []api.Page) []api.Page {
	l := append([]api.Page{mastSector(m)}, leaves...)
	return append(l, mastSector(footOf(m, leaves)))
}

// regionOf answers the sectors of a checkpoint's region.
func regionOf(m api.Mast, places []int) []api.Page {
	return framed(m, leavesOf(m.Gen, places))
}

// startOf tells where the region of a Gen begins.
func startOf(gen int) api.At {
	if gen&1 == 1 {
		return api.At{Zone: 0, Off: 1}
	}
	return api.At{Zone: 1, Off: 0}
}

// softly answers all conventional sectors of a device, zone by zone.
func softly(t *testing.T, d *dev.Device, g api.Geom) [][]api.Page {
	t.Helper()
	all := make([][]api.Page, g.Conv)
	for z := range all {
		for off := range g.Soft {
			p, e := d.Read(api.At{Zone: z, Off: off})
			if e != api.OK {
				t.Fatalf("Read of %d %d: %d", z, off, e)
			}
			all[z] = append(all[z], p)
		}
	}
	return all
}

// sameSoftly tells whether two devices' conventional sectors are one.
func sameSoftly(a, b [][]api.Page) bool {
	return slices.EqualFunc(a, b, slices.Equal[[]api.Page])
}

// lay writes sectors from a place on, past Write.
func lay(t *testing.T, d *dev.Device, a api.At, l []api.Page) {
	t.Helper()
	for i, p := range l {
		must(t, d.Write(api.At{Zone: a.Zone, Off: a.Off + i}, p))
	}
}

// littered answers a device whose conventional sectors hold something, each
// something else, which is nobody's.
func littered(t *testing.T, g api.Geom) *dev.Device {
	t.Helper()
	d := dev.New(g)
	for z := range g.Conv {
		for off := range min(g.Soft, pagesOf(g)+5) {
			p := api.Page{byte(1 + z), byte(off), byte(off >> 8), 1}
			must(t, d.Write(api.At{Zone: z, Off: off}, p))
		}
	}
	must(t, d.Flush())
	return d
}

func must(t *testing.T, e api.Errno) {
	t.Helper()
	if e != api.OK {
		t.Fatalf("refused: %d", e)
	}
}

// write holds that a checkpoint is written.
func write(t *testing.T, d *dev.Device, g api.Geom, m api.Mast, places []int) {
	t.Helper()
	if e := Write(d, g, m, tableWith(places)); e != api.OK {
		t.Fatalf("Write of %v: %d", m, e)
	}
}

// picked holds that Pick tells that head, and a table of these places.
func picked(t *testing.T, what string, d *dev.Device, g api.Geom, m api.Mast, places []int) {
	t.Helper()
	got, x, e := Pick(d, g)
	if got != m || e != api.OK || x == nil {
		t.Fatalf("%s: Pick: %v %d, want %v", what, got, e, m)
	}
	if l := x.Places(); !slices.Equal(l, places) {
		t.Fatalf("%s: places: %v, want %v", what, l, places)
	}
	if l := x.Dirty(); len(l) != 0 {
		t.Fatalf("%s: dirty: %v", what, l)
	}
}

// refused holds that Pick tells that error, and nothing else.
func refused(t *testing.T, what string, d *dev.Device, g api.Geom, want api.Errno) {
	t.Helper()
	if m, x, e := Pick(d, g); m != (api.Mast{}) || x != nil || e != want {
		t.Fatalf("%s: Pick: %v %v %d, want %d", what, m, x, e, want)
	}
}

// unharmed holds that the device was asked nothing illegal.
func unharmed(t *testing.T, d *dev.Device) {
	t.Helper()
	if n := d.Illegal(); n != 0 {
		t.Fatalf("illegal: %d", n)
	}
}

// P13.1, P13.2: the chapter's example.
func TestExample(t *testing.T) {
	d := dev.New(two)
	write(t, d, two, head(two, 1), some(two, 1))
	write(t, d, two, head(two, 2), some(two, 2))
	picked(t, "both", d, two, head(two, 2), some(two, 2))
	if p, _ := d.Read(api.At{Zone: 1, Off: 0}); p != mastSector(head(two, 2)) {
		t.Errorf("% x", p)
	}
	unharmed(t, d)
}

// P13.1: the sectors of a small region, byte by byte but for their own sums.
func TestRegionByHand(t *testing.T) {
	d := dev.New(least)
	m := api.Mast{Gen: 0x203, Epoch: 4, Seq: 5, Pages: 1}
	write(t, d, least, m, []int{6, 0, greatest, 258})
	want := [][]byte{
		{},
		{0x81, 3, 2, 0, 0, 0, 0, 0, 0, 4, 0, 0, 0, 0, 0, 0, 0, 5, 0, 0, 0, 0, 0, 0, 0, 1},
		{0x80, 3, 2, 0, 0, 0, 0, 0, 0, 0, 0, 0, 0, 6, 0, 0, 0, 0, 0, 0, 0, 255, 255, 255, 255, 2, 1},
		{0x82, 3, 2, 0, 0, 0, 0, 0, 0, 4, 0, 0, 0, 0, 0, 0, 0, 5, 0, 0, 0, 0, 0, 0, 0, 1, 0, 0, 0, 0, 0, 0, 0},
	}
	leaf := filled(want[2])
	binary.LittleEndian.PutUint32(want[3][29:], crc32.ChecksumIEEE(leaf[:]))
	for off, b := range want {
		p, e := d.Read(api.At{Zone: 0, Off: off})
		if e != api.OK || off > 0 && p != filled(b) || off == 0 && p != (api.Page{}) {
			t.Errorf("sector %d: % x %d", off, p, e)
		}
	}
}

// P13.1: Write lays the sectors of its region, and no others; what is written
// lasts, and the table stays as it was.
func TestWriteLaysItsRegion(t *testing.T) {
	for _, g := range measures() {
		for _, gen := range []int{1, 2, 3, 4, 255, 256, api.MaxNum - 1, api.MaxNum} {
			d, m, places := littered(t, g), head(g, gen), some(g, gen)
			want := softly(t, d, g)
			a := startOf(gen)
			copy(want[a.Zone][a.Off:], regionOf(m, places))
			x := tableWith(places)
			dirty := x.Dirty()
			must(t, Write(d, g, m, x))
			if d.Cached() != 0 || d.Down() {
				t.Fatalf("%v: cached: %d", m, d.Cached())
			}
			d.Crash(api.Wreck{})
			if !sameSoftly(softly(t, d, g), want) {
				t.Fatalf("%v %v: not the sectors that should be", g, m)
			}
			if !slices.Equal(x.Places(), places) || !slices.Equal(x.Dirty(), dirty) {
				t.Fatalf("%v: the table is another one", m)
			}
			if !slices.Equal(d.Zones(), dev.New(g).Zones()) {
				t.Fatalf("%v: zones: %v", m, d.Zones())
			}
			picked(t, "alone", d, g, m, places)
			unharmed(t, d)
		}
	}
}

// P13.1, P13.2: tables of all kinds are told as they were: of no block, of one
// at each end of a leaf, of each number of a place at its edges, of all blocks.
func TestTables(t *testing.T) {
	for _, g := range measures() {
		none := make([]int, blocksOf(g))
		all := [][]int{none, slices.Repeat([]int{greatest}, len(none)), some(g, 3)}
		for _, block := range []int{0, 1, 3, 9, 10, 19, 20, 23, len(none) - 1} {
			for _, place := range []int{1, 255, 256, 1 << 31, greatest} {
				if block < len(none) {
					one := slices.Clone(none)
					one[block] = place
					all = append(all, one)
				}
			}
		}
		d := dev.New(g)
		for i, places := range all {
			write(t, d, g, head(g, 1+i), places)
			picked(t, "table", d, g, head(g, 1+i), places)
		}
		unharmed(t, d)
	}
}

// P13.1: a Flush, the sectors one by one in order, and a Flush: the device goes
// down behind each of them.
func TestWriteCommandByCommand(t *testing.T) {
	for _, g := range []api.Geom{least, two, three, greatMeasure} {
		for _, gen := range []int{7, 8} {
			base := littered(t, g)
			m, places := head(g, gen), some(g, gen)
			for n := range commands(g) + 3 {
				byCommand(t, base.Clone(), g, m, places, n)
			}
		}
	}
}

// byCommand holds what Write does to a device that goes down behind n commands:
// by what is there when all is left, and when nothing is that doesn't last.
func byCommand(t *testing.T, d *dev.Device, g api.Geom, m api.Mast, places []int, n int) {
	t.Helper()
	ahead, last := api.At{Zone: g.Conv, Off: 0}, commands(g)
	must(t, d.Write(ahead, api.Page{7}))
	none := softly(t, d, g)
	d.Arm(n)
	e := Write(d, g, m, tableWith(places))
	if done := n >= last; done != (e == api.OK) || !done && e != api.ErrDown || d.Down() != (n <= last) {
		t.Fatalf("%d of %d commands: %d, down %v", n, last, e, d.Down())
	}
	// Ahead of the first Flush but the sector ahead is cached, behind it but
	// those of the region, behind the second one nothing.
	laid := min(max(n-1, 0), last-2)
	if cached := []int{1, laid, 0}[min(n, 1)+min(n/last, 1)]; d.Cached() != cached {
		t.Fatalf("%d of %d commands: cached: %d, want %d", n, last, d.Cached(), cached)
	}
	lost := d.Clone()
	lost.Crash(api.Wreck{})
	if _, e := lost.Read(ahead); (e == api.OK) != (n > 0) {
		t.Fatalf("%d of %d commands: what was cached ahead: %d", n, last, e)
	}
	some := softCopy(none)
	a := startOf(m.Gen)
	copy(some[a.Zone][a.Off:], regionOf(m, places)[:laid])
	if n < last && !sameSoftly(softly(t, lost, g), none) {
		t.Fatalf("%d of %d commands: more lasts than should", n, last)
	}
	if n >= last && !sameSoftly(softly(t, lost, g), some) {
		t.Fatalf("%d of %d commands: not all lasts", n, last)
	}
	d.Crash(api.Wreck{Soft: math.MaxUint64})
	if !sameSoftly(softly(t, d, g), some) {
		t.Fatalf("%d of %d commands: not the sectors that should be", n, last)
	}
	unharmed(t, d)
}

// softCopy answers the same sectors in memory of their own.
func softCopy(all [][]api.Page) [][]api.Page {
	var l [][]api.Page
	for _, zone := range all {
		l = append(l, slices.Clone(zone))
	}
	return l
}

// noHeads are masts each of which is wrong in one thing as a head of g.
func noHeads(g api.Geom) []api.Mast {
	right := head(g, 3)
	far := []int{-1, math.MinInt, math.MinInt + 1, math.MaxInt, api.MaxNum + 1, -1 << 32, 1<<41 + 1}
	var l []api.Mast
	for _, n := range append([]int{0}, far...) {
		gen, epoch := right, right
		gen.Gen, epoch.Epoch = n, n
		l = append(l, gen, epoch)
	}
	for _, n := range far {
		seq := right
		seq.Seq = n
		l = append(l, seq)
	}
	for _, n := range append([]int{0, right.Pages - 1, right.Pages + 1, api.MaxBlock, api.MaxBlock + 1, right.Pages + 1<<32}, far...) {
		pages := right
		pages.Pages = n
		l = append(l, pages)
	}
	sum, foot := right, right
	sum.Sum = 1
	foot.Foot = true
	return append(l, sum, foot, footOf(right, leavesOf(3, some(g, 3))), api.Mast{})
}

// P13.1: what is no right head with the measure's Pages is refused, of a device
// that is down too, and nothing is done.
func TestWriteOfNoHead(t *testing.T) {
	for _, g := range measures() {
		d := dev.New(g)
		write(t, d, g, head(g, 2), some(g, 2))
		must(t, d.Write(api.At{Zone: 0, Off: 0}, api.Page{9}))
		d.Arm(1)
		was := softly(t, d, g)
		for _, m := range noHeads(g) {
			x := tableWith(some(g, 3))
			if e := Write(d, g, m, x); e != api.ErrArg || d.Down() || d.Cached() != 1 {
				t.Fatalf("Write of %v: %d", m, e)
			}
			c := d.Clone()
			c.Arm(0)
			if e := Write(c, g, m, x); e != api.ErrArg {
				t.Fatalf("Write of %v, down: %d", m, e)
			}
		}
		if !sameSoftly(softly(t, d, g), was) {
			t.Fatalf("%v: something was done", g)
		}
		unharmed(t, d)
	}
}

// P13.1, P13.2: right heads, at the edges of their numbers, are told as they
// were written.
func TestHeadsAtTheirEdges(t *testing.T) {
	for _, g := range []api.Geom{least, three} {
		for _, gen := range []int{1, 2, api.MaxNum - 1, api.MaxNum} {
			for _, epoch := range []int{1, 2, 1 << 32, api.MaxNum} {
				for _, seq := range []int{0, 1, 1 << 33, api.MaxNum} {
					d := dev.New(g)
					m := api.Mast{Gen: gen, Epoch: epoch, Seq: seq, Pages: pagesOf(g)}
					write(t, d, g, m, some(g, 1))
					picked(t, "edge", d, g, m, some(g, 1))
				}
			}
		}
	}
}

// P13.1, P13.2: a device that is down says so, whatever there is on it; a device
// that can't be told anything isn't asked anything illegal.
func TestDown(t *testing.T) {
	for _, g := range measures() {
		d := dev.New(g)
		refused(t, "new", d, g, api.ErrFormat)
		for gen := range 3 {
			c := d.Clone()
			c.Arm(0)
			refused(t, "down", c, g, api.ErrDown)
			if e := Write(c, g, head(g, 9), tableWith(some(g, 9))); e != api.ErrDown {
				t.Fatalf("Write: %d", e)
			}
			unharmed(t, c)
			write(t, d, g, head(g, 1+gen), some(g, gen))
		}
		unharmed(t, d)
	}
}

// P13.2: of two whole regions the newest one is told, whichever was written
// first, and however far they are apart; the other one, if it is spoilt.
func TestPickTellsTheNewest(t *testing.T) {
	odd := []int{1, 3, 255, 257, 1<<32 + 1, api.MaxNum - 1}
	even := []int{2, 4, 256, 1 << 32, api.MaxNum - 2, api.MaxNum}
	for _, g := range []api.Geom{least, three} {
		for _, a := range odd {
			for _, b := range even {
				newestOf(t, g, a, b)
				newestOf(t, g, b, a)
			}
		}
	}
}

func newestOf(t *testing.T, g api.Geom, first, second int) {
	t.Helper()
	d := dev.New(g)
	write(t, d, g, head(g, first), some(g, first%5))
	write(t, d, g, head(g, second), some(g, second%5))
	newer, older := max(first, second), min(first, second)
	picked(t, "newer", d, g, head(g, newer), some(g, newer%5))
	must(t, d.Write(startOf(newer), api.Page{}))
	picked(t, "older", d, g, head(g, older), some(g, older%5))
	must(t, d.Write(startOf(older), api.Page{}))
	refused(t, "none", d, g, api.ErrFormat)
	unharmed(t, d)
}

// P13.2: a sector is read as it was written last, be it cached or not; Pick
// itself does nothing to the device.
func TestPickReadsWhatIsCached(t *testing.T) {
	for _, g := range []api.Geom{least, two, three} {
		d := dev.New(g)
		write(t, d, g, head(g, 5), some(g, 5))
		lay(t, d, startOf(6), regionOf(head(g, 6), some(g, 6)))
		d.Arm(1)
		zones, was := d.Zones(), softly(t, d, g)
		for range 3 {
			picked(t, "cached", d, g, head(g, 6), some(g, 6))
		}
		if d.Cached() != pagesOf(g)+2 || d.Down() || !slices.Equal(d.Zones(), zones) || !sameSoftly(softly(t, d, g), was) {
			t.Fatalf("%v: Pick has done something", g)
		}
		must(t, d.Write(api.At{Zone: 0, Off: 0}, api.Page{}))
		if !d.Down() {
			t.Fatalf("%v: the device isn't armed any more", g)
		}
		d.Crash(api.Wreck{})
		picked(t, "crashed", d, g, head(g, 5), some(g, 5))
		unharmed(t, d)
	}
}

// P13.1, P13.2: no table is kept: neither the one that was written nor one that
// was told.
func TestTablesAreTheirOwn(t *testing.T) {
	d := dev.New(three)
	x := tableWith(some(three, 1))
	must(t, Write(d, three, head(three, 1), x))
	x.Set(0, 77)
	picked(t, "written", d, three, head(three, 1), some(three, 1))
	_, first, _ := Pick(d, three)
	first.Set(1, 78)
	picked(t, "told", d, three, head(three, 1), some(three, 1))
	if !slices.Equal(x.Places()[1:], some(three, 1)[1:]) {
		t.Error("the table that was written is another one")
	}
}

// P13.1: whatever stood in a region, it is whole behind Write.
func TestWriteOverAnything(t *testing.T) {
	c := chance(11)
	for _, g := range []api.Geom{least, two, three} {
		for range 200 {
			d := littered(t, g)
			gen := 1 + c.below(9)
			l := slices.Concat(regionOf(head(g, gen), some(g, 8)), regionOf(head(g, gen+2), some(g, 9)))
			for i := range pagesOf(g) + 2 {
				a := startOf(gen)
				a.Off += i
				must(t, d.Write(a, l[c.below(len(l))]))
			}
			write(t, d, g, head(g, gen), some(g, gen))
			picked(t, "over", d, g, head(g, gen), some(g, gen))
			unharmed(t, d)
		}
	}
}

// Measures that aren't right, and no device's, are promised nothing but an end.
func TestWrongMeasuresEnd(t *testing.T) {
	far := []int{math.MinInt, math.MinInt + 1, -1 << 40, -5, -1, 0, 1, 5, 64, 1 << 40, math.MaxInt}
	for _, seq := range far {
		for _, size := range far {
			g := api.Geom{Conv: 2, Soft: 8, Seq: seq, Size: size, Open: 3}
			for _, d := range []*dev.Device{dev.New(least), {}} {
				for _, pages := range []int{0, 1, 2, 410} {
					Write(d, g, api.Mast{Gen: 1, Epoch: 1, Pages: pages}, table.New(4))
					Write(d, g, api.Mast{Gen: 2, Epoch: 1, Pages: pages}, &table.Table{})
				}
				Pick(d, g)
			}
		}
	}
}
