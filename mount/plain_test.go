package mount

import (
	"slices"
	"testing"

	"windrow/api"
	"windrow/ckpt"
	"windrow/core"
	"windrow/dev"
	"windrow/geom"
	"windrow/mast"
	"windrow/rec"
	"windrow/table"
)

// told is what a core should tell.
type told struct {
	m      api.Mast
	places []int
	points []int
	heads  [api.Streams]int
}

// plainFormat does to a device what the chapter's words say, of a right
// measure.
func plainFormat(d *dev.Device, g api.Geom) api.Errno {
	m, _, e := ckpt.Pick(d, g)
	if e != api.OK && e != api.ErrFormat {
		return e
	}
	if m.Gen == 1<<40 || m.Epoch == 1<<40 {
		return api.ErrRoom
	}
	if e := d.Write(api.At{}, mast.LayGeom(g)); e != api.OK {
		return e
	}
	m = api.Mast{Gen: m.Gen + 1, Epoch: m.Epoch + 1, Pages: geom.Pages(g)}
	return plainSave(d, g, m, make([]int, geom.Blocks(g)))
}

// plainSave writes a checkpoint, and resets what has nothing live.
func plainSave(d *dev.Device, g api.Geom, m api.Mast, places []int) api.Errno {
	u := table.New(len(places))
	for block, place := range places {
		u.Set(block, place)
	}
	if e := ckpt.Write(d, g, m, u); e != api.OK {
		return e
	}
	for zone := g.Conv; zone < g.Conv+g.Seq; zone++ {
		if d.Zones()[zone].State == api.Empty || plainLive(g, places, zone) {
			continue
		}
		if e := d.Reset(zone); e != api.OK {
			return e
		}
	}
	return api.OK
}

// plainLive tells whether some block stands in a zone.
func plainLive(g api.Geom, places []int, zone int) bool {
	for _, place := range places {
		if place > (zone-g.Conv)*g.Size && place <= (zone-g.Conv+1)*g.Size {
			return true
		}
	}
	return false
}

// plainMount does to a device what the chapter's words say, of a right measure.
func plainMount(d *dev.Device, g api.Geom) (told, api.Errno) {
	p, e := d.Read(api.At{})
	if e != api.OK {
		return told{}, e
	}
	m, u, e := ckpt.Pick(d, g)
	if e != api.OK || p != mast.LayGeom(g) {
		return told{}, api.ErrFormat
	}
	if m.Gen == 1<<40 || m.Epoch == 1<<40 {
		return told{}, api.ErrRoom
	}
	places, last := plainRoll(d, g, m, u.Places())
	for block, place := range places {
		if place != 0 && slices.Contains(places[:block], place) {
			return told{}, api.ErrBytes
		}
	}
	w := told{places: places, points: make([]int, g.Seq)}
	if !plainPool(d, g, &w) {
		return told{}, api.ErrBytes
	}
	w.m = api.Mast{Gen: m.Gen + 1, Epoch: m.Epoch + 1, Seq: last, Pages: m.Pages}
	if e := plainSave(d, g, w.m, places); e != api.OK {
		return told{}, e
	}
	return w, api.OK
}

// plainRoll walks over all sectors for each number anew. It answers where the
// blocks stand then, and the last record's number.
func plainRoll(d *dev.Device, g api.Geom, m api.Mast, places []int) ([]int, int) {
	var waiting []api.Change
	seq := m.Seq
	for {
		place, r := plainFind(d, g, m.Epoch, seq+1)
		if place == 0 {
			return places, seq
		}
		seq++
		switch {
		case r.Kind == api.Put:
			waiting = append(waiting, api.Change{Block: r.Block, Place: place})
		case r.Kind == api.Trim:
			waiting = append(waiting, api.Change{Block: r.Block})
		default:
			for _, c := range waiting {
				if r.Count == len(waiting) && c.Block < len(places) {
					places[c.Block] = c.Place
				}
			}
			waiting = nil
		}
	}
}

// plainFind answers the first record of an epoch and a number, and its place's
// number; 0, if there is none.
func plainFind(d *dev.Device, g api.Geom, epoch, seq int) (int, api.Rec) {
	for place := 1; place <= g.Seq*g.Size; place++ {
		a := api.At{Zone: g.Conv + (place-1)/g.Size, Off: (place - 1) % g.Size}
		if a.Off >= d.Zones()[a.Zone].Point {
			continue
		}
		p, _ := d.Read(a)
		if r, e := rec.Read(p); e == api.OK && r.Epoch == epoch && r.Seq == seq {
			return place, r
		}
	}
	return 0, api.Rec{}
}

// plainPool tells what of the zones is used when those without anything live are
// reset, and whether no more than three are in use by halves.
func plainPool(d *dev.Device, g api.Geom, w *told) bool {
	begun := 0
	for i, z := range d.Zones()[g.Conv:] {
		switch {
		case !plainLive(g, w.places, g.Conv+i):
		case z.State == api.Full:
			w.points[i] = g.Size
		case z.Point > 0:
			w.points[i] = z.Point
			if begun++; begun > 3 {
				return false
			}
			w.heads[begun-1] = g.Conv + i
		}
	}
	return true
}

// sameDevice holds that two devices are the same, as far as they tell.
func sameDevice(t *testing.T, d, want *dev.Device, g api.Geom) {
	t.Helper()
	if d.Illegal() != want.Illegal() {
		t.Fatalf("%d commands were illegal, want %d", d.Illegal(), want.Illegal())
	}
	if d.Down() != want.Down() || d.Cached() != want.Cached() {
		t.Fatalf("down %v, %d cached; want %v, %d", d.Down(), d.Cached(), want.Down(), want.Cached())
	}
	if !slices.Equal(d.Zones(), want.Zones()) {
		t.Fatalf("%v, want %v", d.Zones(), want.Zones())
	}
	// A device that is down reads nothing: its clones are crashed.
	d, want = lasting(d), lasting(want)
	for zone, z := range d.Zones() {
		n := z.Point
		if z.State == api.Soft {
			n = g.Soft
		}
		for off := range n {
			a := api.At{Zone: zone, Off: off}
			got, e := d.Read(a)
			page, f := want.Read(a)
			if e != f || got != page {
				t.Fatalf("sector %v: %v %d, want %v %d", a, got, e, page, f)
			}
		}
	}
}

// lasting answers a device of which all is left.
func lasting(d *dev.Device) *dev.Device {
	d = d.Clone()
	d.Crash(api.Wreck{Keep: slices.Repeat([]int{api.MaxSize}, api.MaxZones), Soft: ^uint64(0)})
	return d
}

// sameCore holds that a core tells what it should.
func sameCore(t *testing.T, c *core.Core, w told) {
	t.Helper()
	if c.Mast() != w.m {
		t.Fatalf("Mast: %v, want %v", c.Mast(), w.m)
	}
	if !slices.Equal(c.Places(), w.places) {
		t.Fatalf("Places: %v, want %v", c.Places(), w.places)
	}
	if p := c.Pool(); !slices.Equal(p.Points, w.points) || p.Heads != w.heads {
		t.Fatalf("Pool: %v, want %v %v", p, w.points, w.heads)
	}
}

// chance answers numbers that follow no simple pattern, the same in each run.
type chance uint64

func (c *chance) below(n int) int {
	*c = *c*6364136223846793005 + 1442695040888963407
	return int(uint64(*c) >> 32 % uint64(n))
}

// least has the least of all kinds; odd has a third conventional zone; wide has
// three pages, and as many open zones as there are.
var (
	least = api.Geom{Conv: 2, Soft: 4, Seq: 6, Size: 8, Open: 6}
	odd   = api.Geom{Conv: 3, Soft: 9, Seq: 8, Size: 9, Open: 8}
	wide  = api.Geom{Conv: 2, Soft: 12, Seq: 9, Size: 13, Open: 9}
)

// device makes up a device with a checkpoint, and a log that mostly follows it,
// in whatever zones.
func (c *chance) device(t *testing.T, g api.Geom) *dev.Device {
	t.Helper()
	m := api.Mast{Gen: 1 + c.below(3), Epoch: 1 + c.below(3), Seq: c.below(5)}
	d := holding(t, g, m, c.table(g))
	if c.below(3) == 0 {
		older := m
		older.Gen++
		older.Pages = geom.Pages(g)
		do(t, "ckpt.Write", ckpt.Write(d, g, older, table.New(geom.Blocks(g))), api.OK)
	}
	seq, waiting := m.Seq-c.below(2), 0
	zones := 1 + c.below(g.Seq)
	for range c.below(5 * g.Size) {
		r := api.Rec{Kind: 1 + c.below(3), Epoch: m.Epoch, Block: c.below(geom.Blocks(g) + 1)}
		seq += c.ahead()
		if c.below(30) == 0 {
			r.Epoch++
		}
		r.Seq = max(seq, 0)
		waiting++
		if r.Kind == api.Commit {
			r.Block, r.Count = c.below(2), waiting-1
			waiting = 0
		}
		zone := g.Conv + c.below(zones)
		if z := d.Zones()[zone]; z.State != api.Full {
			lay(t, d, zone, z.Point, r)
		}
		c.disturb(d, zone)
	}
	return d
}

// ahead tells how far a record's number is ahead of the one before.
func (c *chance) ahead() int {
	if c.below(25) == 0 {
		return c.below(3)
	}
	return 1
}

// table makes up where some blocks stand, mostly each at a place of its own.
func (c *chance) table(g api.Geom) map[int]int {
	places := map[int]int{}
	if c.below(2) == 0 {
		return places
	}
	for range c.below(5) {
		places[c.below(geom.Blocks(g))] = 1 + c.below(c.below(g.Seq*g.Size)+1)
	}
	return places
}

// disturb at times does what no core does: it finishes a zone, or loses sectors.
func (c *chance) disturb(d *dev.Device, zone int) {
	switch c.below(60) {
	case 0:
		if d.Zones()[zone].State != api.Full {
			d.Finish(zone)
		}
	case 1:
		d.Flush()
	case 2:
		d.Crash(api.Wreck{Keep: slices.Repeat([]int{c.below(6)}, 9), Tear: c.below(66)})
	}
}

// P20.1, P20.2: whatever a device has, and behind whichever command it goes
// down, what is answered, and what is left on the device, is what the words say.
func TestTheWords(t *testing.T) {
	seen := map[api.Errno]int{}
	rolled := 0
	for i, g := range []api.Geom{least, odd, wide} {
		for seed := range 700 {
			c := chance(10000*i + seed)
			d := c.device(t, g)
			if seed%3 > 0 {
				d.Arm(1 + c.below(12))
			}
			e, moved := mountAsTheWords(t, d.Clone(), g)
			seen[e]++
			rolled += moved
			words := d.Clone()
			e, want := Format(d, g), plainFormat(words, g)
			do(t, "Format", e, want)
			sameDevice(t, d, words, g)
		}
	}
	for _, e := range []api.Errno{api.OK, api.ErrBytes, api.ErrDown} {
		if seen[e] < 100 {
			t.Errorf("the error %d was answered but %d times", e, seen[e])
		}
	}
	if rolled < 1000 {
		t.Errorf("but %d records were rolled over", rolled)
	}
}

// mountAsTheWords holds that a Mount is what the words say, and answers its
// error, and how many records it has rolled over.
func mountAsTheWords(t *testing.T, d *dev.Device, g api.Geom) (api.Errno, int) {
	t.Helper()
	words := d.Clone()
	m, _, _ := ckpt.Pick(d, g)
	c, e := Mount(d, g)
	w, want := plainMount(words, g)
	do(t, "Mount", e, want)
	sameDevice(t, d, words, g)
	if e != api.OK {
		if c != nil {
			t.Fatal("a core beside an error")
		}
		return e, 0
	}
	sameCore(t, c, w)
	return e, w.m.Seq - m.Seq
}
