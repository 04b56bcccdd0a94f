package scan

import (
	"encoding/binary"
	"hash/crc32"
	"math"
	"slices"
	"testing"

	"windrow/api"
	"windrow/dev"
	"windrow/mast"
	"windrow/page"
	"windrow/rec"
)

// chance answers numbers that follow no simple pattern, the same in each run.
type chance uint64

func (c *chance) below(n int) int {
	*c = *c*6364136223846793005 + 1442695040888963407
	return int(uint64(*c) >> 32 % uint64(n))
}

// small is the chapters' measure of tests, with as many open zones as there are.
var small = api.Geom{Conv: 2, Soft: 8, Seq: 6, Size: 8, Open: 6}

// measures are right measures, with the least and the most of all kinds, of
// which all sequential zones may be open.
func measures() []api.Geom {
	return []api.Geom{
		small,
		{Conv: 2, Soft: 4, Seq: 6, Size: 9, Open: 6},
		{Conv: 5, Soft: 40, Seq: 9, Size: 16, Open: 9},
		{Conv: 58, Soft: 90, Seq: 6, Size: 21, Open: math.MaxInt},
		{Conv: 2, Soft: 413, Seq: 62, Size: api.MaxSize, Open: 62},
	}
}

// numOf tells a place's number, by chapter 3's words.
func numOf(g api.Geom, a api.At) int { return (a.Zone-g.Conv)*g.Size + a.Off + 1 }

// record answers a right record; of what kind it is, and what it holds, its
// number tells.
func record(epoch, seq int) api.Rec {
	r := api.Rec{Kind: 1 + seq%3, Epoch: epoch, Seq: seq}
	switch r.Kind {
	case api.Put:
		r.Block = seq % api.MaxBlock
		r.Data = api.Data{byte(seq), byte(seq >> 8), api.Block - 1: 7}
	case api.Trim:
		r.Block = api.MaxBlock - 1 - seq%api.MaxBlock
	default:
		r.Block, r.Count = seq&1, seq%(api.MaxBlock+1)
	}
	return r
}

func must(t *testing.T, e api.Errno) {
	t.Helper()
	if e != api.OK {
		t.Fatalf("refused: %d", e)
	}
}

// lay writes a sector at a sequential zone's pointer.
func lay(t *testing.T, d *dev.Device, zone int, p api.Page) {
	t.Helper()
	must(t, d.Write(api.At{Zone: zone, Off: d.Zones()[zone].Point}, p))
}

// put writes a record at a sequential zone's pointer, and answers what is to be
// found there.
func put(t *testing.T, d *dev.Device, g api.Geom, zone, epoch, seq int) api.Found {
	t.Helper()
	f := api.Found{Place: numOf(g, api.At{Zone: zone, Off: d.Zones()[zone].Point}), Rec: record(epoch, seq)}
	lay(t, d, zone, rec.Lay(f.Rec))
	return f
}

// told holds that All tells just these records, in this order, and that it asks
// the device nothing illegal, and does nothing to it.
func told(t *testing.T, what string, d *dev.Device, g api.Geom, epoch, seq int, want []api.Found) {
	t.Helper()
	zones, cached, illegal := d.Zones(), d.Cached(), d.Illegal()
	l, e := All(d, g, epoch, seq)
	if e != api.OK || !slices.Equal(l, want) {
		t.Fatalf("%s: All of %d behind %d: %v %d, want %v", what, epoch, seq, l, e, want)
	}
	if !slices.Equal(d.Zones(), zones) || d.Cached() != cached || d.Illegal() != illegal || d.Down() {
		t.Fatalf("%s: something was done to the device", what)
	}
}

// chosen answers those of a list that are of an epoch and behind a number, as
// they should be told; of one number the list has them by places.
func chosen(l []api.Found, epoch, seq int) []api.Found {
	l = slices.DeleteFunc(slices.Clone(l), func(f api.Found) bool { return f.Rec.Epoch != epoch || f.Rec.Seq <= seq })
	slices.SortStableFunc(l, func(a, b api.Found) int {
		if a.Rec.Seq < b.Rec.Seq {
			return -1
		}
		if a.Rec.Seq > b.Rec.Seq {
			return 1
		}
		return 0
	})
	return l
}

// P14.1, P14.2: the chapter's example.
func TestExample(t *testing.T) {
	d := dev.New(small)
	want := []api.Found{put(t, d, small, 3, 2, 5), put(t, d, small, 2, 2, 6), put(t, d, small, 2, 2, 8)}
	told(t, "example", d, small, 2, 4, want)
	if l := Chain(want, 4); !slices.Equal(l, want[:2]) {
		t.Errorf("Chain: %v", l)
	}
	if n := Last(want, 4); n != 6 {
		t.Errorf("Last: %d", n)
	}
}

// P14.1: records by hand, with all that they hold.
func TestByHand(t *testing.T) {
	d := dev.New(small)
	a := api.Rec{Kind: api.Put, Epoch: 3, Seq: 12, Block: 9, Data: api.Data{1, 2, 3}}
	b := api.Rec{Kind: api.Trim, Epoch: 3, Seq: 11, Block: 4095}
	c := api.Rec{Kind: api.Commit, Epoch: 3, Seq: 13, Block: 1, Count: 2}
	lay(t, d, 7, rec.Lay(a))
	lay(t, d, 2, rec.Lay(b))
	lay(t, d, 4, rec.Lay(record(2, 12)))
	lay(t, d, 4, rec.Lay(c))
	told(t, "all", d, small, 3, 10, []api.Found{{Place: 1, Rec: b}, {Place: 41, Rec: a}, {Place: 18, Rec: c}})
	told(t, "one less", d, small, 3, 11, []api.Found{{Place: 41, Rec: a}, {Place: 18, Rec: c}})
	told(t, "the last", d, small, 3, 12, []api.Found{{Place: 18, Rec: c}})
	told(t, "none", d, small, 3, 13, nil)
	told(t, "the other epoch", d, small, 2, 11, []api.Found{{Place: 17, Rec: record(2, 12)}})
	told(t, "no epoch", d, small, 4, 0, nil)
}

// P14.1: of a device on which nothing was written nothing is told.
func TestNothing(t *testing.T) {
	for _, g := range measures() {
		d := dev.New(g)
		told(t, "new", d, g, 1, 0, nil)
		told(t, "new", d, g, 0, -1, nil)
	}
}

// around answers numbers at the edges of a record's, and beyond them.
func around() []int {
	return []int{
		math.MinInt, -api.MaxNum, -1 << 32, -2, -1, 0, 1, 2, 3, 254, 255, 256, 1<<32 - 1, 1 << 32, 1<<32 + 1,
		api.MaxNum - 2, api.MaxNum - 1, api.MaxNum, api.MaxNum + 1, api.MaxNum + 2, 1 << 41, math.MaxInt,
	}
}

// P14.1: just the records of the epoch are told, and of these just those behind
// the number, whatever epoch and number are asked for.
func TestEpochsAndNumbers(t *testing.T) {
	g := api.Geom{Conv: 3, Soft: 40, Seq: 9, Size: 40, Open: 9}
	d := dev.New(g)
	var all []api.Found
	for _, epoch := range around() {
		for i, seq := range around() {
			if min(epoch, seq) >= 1 && max(epoch, seq) <= api.MaxNum {
				all = append(all, put(t, d, g, g.Conv+i%g.Seq, epoch, seq))
			}
		}
	}
	for _, epoch := range around() {
		for _, seq := range around() {
			told(t, "edge", d, g, epoch, seq, chosen(all, epoch, seq))
		}
	}
}

// orders answers all orders of some numbers.
func orders(l []int) [][]int {
	if len(l) == 0 {
		return [][]int{nil}
	}
	var all [][]int
	for i := range l {
		for _, rest := range orders(slices.Delete(slices.Clone(l), i, i+1)) {
			all = append(all, append([]int{l[i]}, rest...))
		}
	}
	return all
}

// P14.1: in whatever order they stand, records are told rising by their
// numbers, and of one number by their places.
func TestOrder(t *testing.T) {
	for _, seqs := range orders([]int{4, 5, 5, 5, 9, 10}) {
		for _, zones := range [][]int{{2, 2, 2, 2, 2, 2}, {7, 6, 5, 4, 3, 2}, {3, 2, 3, 2, 4, 3}} {
			d := dev.New(small)
			var all []api.Found
			for i, seq := range seqs {
				all = append(all, put(t, d, small, zones[i], 1, seq))
			}
			slices.SortFunc(all, func(a, b api.Found) int { return a.Place - b.Place })
			told(t, "in order", d, small, 1, 0, chosen(all, 1, 0))
			told(t, "the last ones", d, small, 1, 5, chosen(all, 1, 5))
		}
	}
}

// P14.1: the number goes ahead of the place, be the one great and the other
// small: numbers are compared, not texts of them, nor what is left of them.
func TestOrderOfGreatNumbers(t *testing.T) {
	for _, g := range measures() {
		d := dev.New(g)
		last := g.Conv + g.Seq - 1
		c := put(t, d, g, g.Conv, 7, api.MaxNum)
		b := put(t, d, g, g.Conv+1, 7, 1<<32+1)
		e := put(t, d, g, last, 7, api.MaxNum)
		a := put(t, d, g, last, 7, 10)
		z := put(t, d, g, last, 7, 9)
		told(t, "great", d, g, 7, 0, []api.Found{z, a, b, c, e})
	}
}

// P14.1: each sector of each sequential zone is told, with its number: of a
// device that is written full.
func TestEachPlace(t *testing.T) {
	for _, g := range measures() {
		d := dev.New(g)
		var want []api.Found
		for zone := g.Conv; zone < g.Conv+g.Seq; zone++ {
			for off := range g.Size {
				want = append(want, put(t, d, g, zone, 5, numOf(g, api.At{Zone: zone, Off: off})))
			}
		}
		told(t, "full", d, g, 5, 0, want)
		told(t, "the last one", d, g, 5, g.Seq*g.Size-1, want[len(want)-1:])
	}
}

// P14.1: a zone is read up to its pointer, in whichever state it is: Empty,
// Open, Closed, Full of records, or finished ahead of its end.
func TestStates(t *testing.T) {
	for _, g := range measures() {
		for n := range g.Size + 1 {
			d := dev.New(g)
			var want []api.Found
			for i := range n {
				want = append(want, put(t, d, g, g.Conv+3, 2, i+1))
			}
			state := [3]int{api.Empty, api.Open, api.Full}[min(n, 1)+n/g.Size]
			inState(t, d, g, api.Zone{State: state, Point: n}, want)
			must(t, d.Flush())
			if n < g.Size {
				finished := d.Clone()
				must(t, finished.Finish(g.Conv+3))
				inState(t, finished, g, api.Zone{State: api.Full, Point: n}, want)
			}
			d.Crash(api.Wreck{})
			if state == api.Open {
				state = api.Closed
			}
			inState(t, d, g, api.Zone{State: state, Point: n}, want)
			must(t, d.Reset(g.Conv+3))
			inState(t, d, g, api.Zone{}, nil)
		}
	}
}

// inState holds what the fourth sequential zone is, and what is told of it.
func inState(t *testing.T, d *dev.Device, g api.Geom, z api.Zone, want []api.Found) {
	t.Helper()
	if got := d.Zones()[g.Conv+3]; got != z {
		t.Fatalf("the zone is %v, want %v", got, z)
	}
	told(t, "state", d, g, 2, 0, want)
}

// P14.1: a zone that was reset tells what was written since, and nothing of what
// had been there.
func TestWrittenAgain(t *testing.T) {
	d := dev.New(small)
	for seq := range small.Size {
		put(t, d, small, 4, 1, 1+seq)
	}
	must(t, d.Flush())
	must(t, d.Reset(4))
	want := []api.Found{put(t, d, small, 4, 1, 20), put(t, d, small, 4, 1, 21)}
	told(t, "again", d, small, 1, 0, want)
}

// P14.1: what stands in conventional zones is told of none, be it a record.
func TestConventionalZones(t *testing.T) {
	for _, g := range measures() {
		d := dev.New(g)
		for zone := range g.Conv {
			for _, off := range []int{0, 1, g.Soft - 1} {
				must(t, d.Write(api.At{Zone: zone, Off: off}, rec.Lay(record(1, 1+off))))
			}
		}
		told(t, "conventional", d, g, 1, 0, nil)
		want := []api.Found{put(t, d, g, g.Conv, 1, 2)}
		told(t, "beside", d, g, 1, 0, want)
	}
}

// P14.1: what is cached is told as what lasts is; what a crash loses is told no
// more.
func TestCached(t *testing.T) {
	d := dev.New(small)
	want := []api.Found{put(t, d, small, 2, 1, 1), put(t, d, small, 3, 1, 2)}
	must(t, d.Flush())
	want = append(want, put(t, d, small, 2, 1, 3), put(t, d, small, 3, 1, 4))
	told(t, "cached", d, small, 1, 0, want)
	d.Crash(api.Wreck{Keep: []int{0, 1}})
	told(t, "lost", d, small, 1, 0, []api.Found{want[0], want[1], want[3]})
}

// summed answers p with the right sum at its end.
func summed(p api.Page) api.Page {
	binary.LittleEndian.PutUint32(p[60:], crc32.ChecksumIEEE(p[:60]))
	return p
}

// sector lays a record as chapter 6 says, by the library's means, be it right or
// not.
func sector(kind, epoch, seq, block, count int) api.Page {
	b := []byte{byte(kind)}
	b = binary.LittleEndian.AppendUint64(b, uint64(epoch))
	b = binary.LittleEndian.AppendUint64(b, uint64(seq))
	b = binary.LittleEndian.AppendUint32(b, uint32(block))
	b = binary.LittleEndian.AppendUint32(b, uint32(count))
	var p api.Page
	copy(p[:60], b)
	return summed(p)
}

// none holds that a sector counts for nothing, and that those around it count,
// in its zone too.
func none(t *testing.T, what string, p api.Page) {
	t.Helper()
	d := dev.New(small)
	want := []api.Found{put(t, d, small, 4, 1, 1)}
	lay(t, d, 4, p)
	want = append(want, put(t, d, small, 4, 1, 3), put(t, d, small, 5, 1, 4))
	told(t, what, d, small, 1, 0, want)
	told(t, what, d, small, 0, -1, nil)
}

// P14.1: with any bit turned a sector is no record's.
func TestEachBitTurned(t *testing.T) {
	for seq := range 3 {
		whole := rec.Lay(record(1, 6+seq))
		for bit := range 8 * api.Sector {
			p := whole
			p[bit/8] ^= 1 << (bit % 8)
			none(t, "turned", p)
		}
	}
}

// P14.1: a sector whose sum is right but which is no right record's counts for
// nothing.
func TestNoRightRecords(t *testing.T) {
	none(t, "noughts", api.Page{})
	none(t, "noughts, with their sum", summed(api.Page{}))
	none(t, "ones", summed(api.Page(slices.Repeat([]byte{255}, api.Sector))))
	none(t, "a leaf", page.Lay(api.Leaf{Gen: 1, Index: 2}))
	none(t, "a head", mast.Lay(api.Mast{Gen: 1, Epoch: 1, Seq: 2, Pages: 1}))
	none(t, "a foot", mast.Lay(api.Mast{Foot: true, Gen: 1, Epoch: 1, Seq: 2, Pages: 1, Sum: 3}))
	none(t, "a measure", mast.LayGeom(small))
	for _, kind := range []int{0, 4, 5, 128, 129, 130, 131, 255} {
		none(t, "kind", sector(kind, 1, 2, 0, 0))
	}
	for _, kind := range []int{api.Put, api.Trim, api.Commit} {
		for _, n := range []int{0, -1, api.MaxNum + 1, 1<<40 + 1<<33, math.MinInt, math.MaxInt} {
			none(t, "epoch", sector(kind, n, 2, 0, 0))
			none(t, "number", sector(kind, 1, n, 0, 0))
		}
	}
	none(t, "a Put of no block", sector(api.Put, 1, 2, api.MaxBlock, 0))
	none(t, "a Put that counts", sector(api.Put, 1, 2, 0, 1))
	none(t, "a Trim of no block", sector(api.Trim, 1, 2, -1, 0))
	none(t, "a Trim that counts", sector(api.Trim, 1, 2, 0, 1))
	none(t, "a Commit of whom", sector(api.Commit, 1, 2, 2, 0))
	none(t, "a Commit of too many", sector(api.Commit, 1, 2, 0, api.MaxBlock+1))
	for _, at := range []int{25, 56, 57, 59} {
		p := sector(api.Trim, 1, 2, 0, 0)
		p[at] = 1
		none(t, "something behind", summed(p))
	}
}

// P14.1: a torn record counts for nothing; if but noughts are torn from it, it
// is whole.
func TestTorn(t *testing.T) {
	for _, seq := range []int{6, 7, 8} {
		whole := rec.Lay(record(1, seq))
		for tear := range api.Sector + 2 {
			d := dev.New(small)
			want := []api.Found{put(t, d, small, 2, 1, 5)}
			must(t, d.Flush())
			f := put(t, d, small, 2, 1, seq)
			d.Crash(api.Wreck{Tear: tear})
			var left api.Page
			copy(left[:min(tear, api.Sector)], whole[:])
			if left == whole {
				want = append(want, f)
			}
			told(t, "torn", d, small, 1, 0, want)
			want = append(want, put(t, d, small, 2, 1, 20))
			told(t, "gone on", d, small, 1, 0, want)
		}
	}
}

// P14.1: a device that is down says so, whatever is asked for, also where there
// is nothing to read; when the power is there again it tells as ahead.
func TestDown(t *testing.T) {
	for _, g := range measures() {
		empty, some, softly := dev.New(g), dev.New(g), dev.New(g)
		want := []api.Found{put(t, some, g, g.Conv, 1, 1), put(t, some, g, g.Conv+5, 1, 2)}
		must(t, some.Flush())
		must(t, softly.Write(api.At{Zone: 1}, rec.Lay(record(1, 1))))
		for _, d := range []*dev.Device{empty, some, softly} {
			d.Arm(0)
			for _, n := range around() {
				if l, e := All(d, g, 1, n); len(l) != 0 || e != api.ErrDown {
					t.Fatalf("All behind %d: %v %d", n, l, e)
				}
				if l, e := All(d, g, n, 0); len(l) != 0 || e != api.ErrDown {
					t.Fatalf("All of %d: %v %d", n, l, e)
				}
			}
			if !d.Down() || d.Illegal() != 0 {
				t.Fatalf("down: %v, illegal: %d", d.Down(), d.Illegal())
			}
			d.Crash(api.Wreck{})
		}
		told(t, "up", empty, g, 1, 0, nil)
		told(t, "up", some, g, 1, 0, want)
		told(t, "up", softly, g, 1, 0, nil)
	}
}

// P14.1: what was refused ahead counts for nothing; All is no command, so that
// no device goes down of it.
func TestArmed(t *testing.T) {
	d := dev.New(small)
	want := []api.Found{put(t, d, small, 6, 1, 1)}
	if e := d.Write(api.At{Zone: 3, Off: 2}, rec.Lay(record(1, 2))); e != api.ErrPlace {
		t.Fatal(e)
	}
	d.Arm(1)
	for range 20 {
		told(t, "armed", d, small, 1, 0, want)
	}
	want = append(want, put(t, d, small, 6, 1, 3))
	if l, e := All(d, small, 1, 0); len(l) != 0 || e != api.ErrDown {
		t.Errorf("%v %d", l, e)
	}
	d.Crash(api.Wreck{Keep: []int{0, 0, 0, 0, 9}})
	told(t, "up", d, small, 1, 0, want)
}

// P14.4: what All answers is new memory: what is done to it isn't told later.
func TestNewMemory(t *testing.T) {
	d := dev.New(small)
	want := []api.Found{put(t, d, small, 2, 1, 1), put(t, d, small, 3, 1, 2), put(t, d, small, 4, 1, 3)}
	l, _ := All(d, small, 1, 0)
	m, _ := All(d, small, 1, 0)
	l = append(l[:1], api.Found{Place: 99})
	l[0].Rec.Data[0]++
	if !slices.Equal(m, want) {
		t.Errorf("another answer is another one now: %v", m)
	}
	told(t, "behind it", d, small, 1, 0, want)
}

// held is what stands in a sequential zone: of each sector the record, or one of
// Kind 0, if none is there; and how many of them last.
type held struct {
	recs []api.Rec
	last int
}

// P14.1: on walks of writes, resets, finishes, flushes and crashes All tells what
// was written and is left.
func TestWalk(t *testing.T) {
	for seed, g := range measures()[:4] {
		c, d := chance(3+seed), dev.New(g)
		zones := make([]held, g.Seq)
		for range 4000 {
			i := c.below(g.Seq)
			h := &zones[i]
			switch n := c.below(40); {
			case n == 0:
				must(t, d.Flush())
				for j := range zones {
					zones[j].last = len(zones[j].recs)
				}
			case n <= 2:
				must(t, d.Reset(g.Conv+i))
				*h = held{}
			case n == 3 && d.Zones()[g.Conv+i].State != api.Full:
				must(t, d.Finish(g.Conv+i))
				h.last = len(h.recs)
			case n == 4:
				crash(d, zones, &c)
			case d.Zones()[g.Conv+i].State != api.Full:
				h.recs = append(h.recs, some(t, d, g.Conv+i, &c))
			}
			epoch, seq := 1+c.below(3), c.below(14)-1
			told(t, "walk", d, g, epoch, seq, chosen(foundIn(g, zones), epoch, seq))
		}
	}
}

// some writes a sector of chance at a zone's pointer, and answers its record.
func some(t *testing.T, d *dev.Device, zone int, c *chance) api.Rec {
	t.Helper()
	r := record(1+c.below(3), 1+c.below(12))
	p := rec.Lay(r)
	if c.below(5) == 0 {
		p[c.below(api.Sector)] ^= 1 << c.below(8)
		r = api.Rec{}
	}
	lay(t, d, zone, p)
	return r
}

// crash lets a device crash, and leaves of the zones' records what is left.
func crash(d *dev.Device, zones []held, c *chance) {
	var w api.Wreck
	for i := range zones {
		h := &zones[i]
		w.Keep = append(w.Keep, c.below(5))
		h.last += min(w.Keep[i], len(h.recs)-h.last)
		h.recs = h.recs[:h.last]
	}
	d.Crash(w)
}

// foundIn answers all records of some zones, by their places.
func foundIn(g api.Geom, zones []held) []api.Found {
	var l []api.Found
	for i, h := range zones {
		for off, r := range h.recs {
			if r.Kind != 0 {
				l = append(l, api.Found{Place: numOf(g, api.At{Zone: g.Conv + i, Off: off}), Rec: r})
			}
		}
	}
	return l
}
