package mount

import (
	"slices"
	"testing"

	"windrow/api"
	"windrow/ckpt"
	"windrow/core"
	"windrow/dev"
	"windrow/geom"
	"windrow/mast"
	"windrow/rec"
	"windrow/table"
)

// small has 8 blocks, in one page; its sequential zones are 2 to 8.
var small = api.Geom{Conv: 2, Soft: 8, Seq: 7, Size: 8, Open: 3}

// do holds that an error is the one that is wanted.
func do(t *testing.T, what string, e, want api.Errno) {
	t.Helper()
	if e != want {
		t.Fatalf("%s: %d, want %d", what, e, want)
	}
}

// formatted answers a device that is formatted.
func formatted(t *testing.T, g api.Geom) *dev.Device {
	t.Helper()
	d := dev.New(g)
	do(t, "Format", Format(d, g), api.OK)
	return d
}

// mounted holds that a device is mounted, and answers its core.
func mounted(t *testing.T, d *dev.Device, g api.Geom) *core.Core {
	t.Helper()
	c, e := Mount(d, g)
	do(t, "Mount", e, api.OK)
	if c == nil {
		t.Fatal("no core")
	}
	return c
}

// refused holds that a Mount answers an error, no core, and does nothing.
func refused(t *testing.T, what string, d *dev.Device, g api.Geom, want api.Errno) {
	t.Helper()
	was := d.Clone()
	if c, e := Mount(d, g); c != nil || e != want {
		t.Fatalf("%s: %v %d, want %d", what, c, e, want)
	}
	sameDevice(t, d, was, g)
}

// lay writes a record.
func lay(t *testing.T, d *dev.Device, zone, off int, r api.Rec) {
	t.Helper()
	do(t, "Write", d.Write(api.At{Zone: zone, Off: off}, rec.Lay(r)), api.OK)
}

// holding answers a device with a measure and a checkpoint, in which blocks
// stand at places, and nothing else.
func holding(t *testing.T, g api.Geom, m api.Mast, places map[int]int) *dev.Device {
	t.Helper()
	d, u := dev.New(g), table.New(geom.Blocks(g))
	do(t, "Write", d.Write(api.At{}, mast.LayGeom(g)), api.OK)
	for block, place := range places {
		u.Set(block, place)
	}
	m.Pages = geom.Pages(g)
	do(t, "ckpt.Write", ckpt.Write(d, g, m, u), api.OK)
	return d
}

// picks holds that a device's newest checkpoint has these numbers and places.
func picks(t *testing.T, d *dev.Device, g api.Geom, m api.Mast, places []int) {
	t.Helper()
	m.Pages = geom.Pages(g)
	got, u, e := ckpt.Pick(d, g)
	if e != api.OK || got != m {
		t.Fatalf("Pick: %v %d, want %v", got, e, m)
	}
	if !slices.Equal(u.Places(), places) {
		t.Fatalf("Pick: %v, want %v", u.Places(), places)
	}
}

// points holds how many sectors of the zones from 2 on are written.
func points(t *testing.T, d *dev.Device, want ...int) {
	t.Helper()
	for i, n := range want {
		if z := d.Zones()[2+i]; z.Point != n {
			t.Fatalf("zone %d has %d sectors, want %d", 2+i, z.Point, n)
		}
	}
}

// reads holds that a block has data that begin with x.
func reads(t *testing.T, c *core.Core, block int, x byte) {
	t.Helper()
	want := api.Old{Block: block, Has: true, Data: api.Data{x}}
	if o, e := c.Read(block); e != api.OK || o != want {
		t.Fatalf("Read(%d): %v %d, want %v", block, o, e, want)
	}
}

// bare holds that some blocks are nothing.
func bare(t *testing.T, c *core.Core, blocks ...int) {
	t.Helper()
	for _, block := range blocks {
		if o, e := c.Read(block); e != api.OK || o != (api.Old{Block: block}) {
			t.Fatalf("Read(%d): %v %d, want nothing", block, o, e)
		}
	}
}

func put(block int, x byte) api.Write { return api.Write{Block: block, Data: api.Data{x}} }

func trim(block int) api.Write { return api.Write{Block: block, Trim: true} }

// P20.1, P20.2: the example; what a device has behind a Format, and a Mount.
func TestExample(t *testing.T) {
	d := formatted(t, small)
	p, e := d.Read(api.At{Zone: 0, Off: 0})
	if e != api.OK || p != mast.LayGeom(small) {
		t.Fatal(p, e)
	}
	picks(t, d, small, api.Mast{Gen: 1, Epoch: 1}, make([]int, 8))
	c := mounted(t, d, small)
	bare(t, c, 0, 1, 2, 3, 4, 5, 6, 7)
	if m := c.Mast(); m != (api.Mast{Gen: 2, Epoch: 2, Pages: 1}) {
		t.Error(m)
	}
	picks(t, d, small, api.Mast{Gen: 2, Epoch: 2}, make([]int, 8))
	if d.Cached() != 0 || d.Illegal() != 0 || len(c.Cands()) != 0 {
		t.Error(d.Cached(), d.Illegal(), c.Cands())
	}
	if p := c.Pool(); !slices.Equal(p.Points, make([]int, 7)) || p.Heads != [3]int{} {
		t.Error(p)
	}
}

// wrong are measures that aren't right.
func wrong() []api.Geom {
	return []api.Geom{
		{},
		{Conv: 1, Soft: 8, Seq: 7, Size: 8, Open: 3},
		{Conv: 2, Soft: 3, Seq: 7, Size: 8, Open: 3},
		{Conv: 2, Soft: 1<<16 + 1, Seq: 7, Size: 8, Open: 3},
		{Conv: 2, Soft: 8, Seq: 5, Size: 8, Open: 3},
		{Conv: 2, Soft: 8, Seq: 63, Size: 8, Open: 3},
		{Conv: 2, Soft: 8, Seq: 7, Size: 7, Open: 3},
		{Conv: 2, Soft: 8, Seq: 7, Size: 257, Open: 3},
		{Conv: 2, Soft: 8, Seq: 7, Size: 8, Open: 2},
		{Conv: -1 << 62, Soft: -1, Seq: -1 << 62, Size: -8, Open: -1},
		{Conv: 2, Soft: 8, Seq: 1<<63 - 1, Size: 1<<63 - 1, Open: 1<<63 - 1},
	}
}

// P20.1, P20.2: of a measure that isn't right nothing is done, whatever the
// device is, be it down or not.
func TestWrongMeasures(t *testing.T) {
	for _, g := range wrong() {
		for _, d := range []*dev.Device{dev.New(small), formatted(t, small)} {
			for _, armed := range []int{-1, 1, 0} {
				d.Arm(armed)
				was := d.Clone()
				do(t, "Format", Format(d, g), api.ErrArg)
				refused(t, "Mount", d, g, api.ErrArg)
				sameDevice(t, d, was, small)
			}
		}
	}
}

// P20.1, P20.2: a measure's sector has room for an Open up to 2^31 - 1: beyond,
// no device is formatted.
func TestManyOpenZones(t *testing.T) {
	g := small
	g.Open = 1<<31 - 1
	c := mounted(t, formatted(t, g), g)
	bare(t, c, 0)
	for _, open := range []int{1 << 31, 1<<31 + 3, 1<<32 + 3, 1<<63 - 1} {
		g.Open = open
		d := dev.New(g)
		do(t, "Format", Format(d, g), api.ErrArg)
		refused(t, "Mount", d, g, api.ErrFormat)
		do(t, "Write", d.Write(api.At{}, mast.LayGeom(small)), api.OK)
		refused(t, "Mount", d, g, api.ErrFormat)
	}
	d := formatted(t, small)
	g.Open = 1<<32 + 3
	refused(t, "Open with the same lower half", d, g, api.ErrFormat)
}

// P20.1: the numbers follow the newest checkpoint's, be the device signed or
// not; Seq begins anew, and no block is left.
func TestFormatNumbers(t *testing.T) {
	d := holding(t, small, api.Mast{Gen: 7, Epoch: 9, Seq: 100}, map[int]int{3: 5})
	do(t, "Format", Format(d, small), api.OK)
	picks(t, d, small, api.Mast{Gen: 8, Epoch: 10}, make([]int, 8))
	do(t, "Format", Format(d, small), api.OK)
	picks(t, d, small, api.Mast{Gen: 9, Epoch: 11}, make([]int, 8))
	do(t, "Write", d.Write(api.At{}, api.Page{1, 2, 3}), api.OK)
	do(t, "Format", Format(d, small), api.OK)
	picks(t, d, small, api.Mast{Gen: 10, Epoch: 12}, make([]int, 8))
	c := mounted(t, d, small)
	if m := c.Mast(); m != (api.Mast{Gen: 11, Epoch: 13, Pages: 1}) {
		t.Error(m)
	}
}

// P20.1, P20.2: behind the number MaxNum, of checkpoints or of epochs, there is
// none: then nothing is done.
func TestTheLastNumbers(t *testing.T) {
	const max = api.MaxNum
	for _, m := range []api.Mast{{Gen: max, Epoch: 1}, {Gen: 1, Epoch: max}, {Gen: max, Epoch: max}} {
		d := holding(t, small, m, nil)
		d.Arm(1)
		do(t, "Format", Format(d, small), api.ErrRoom)
		refused(t, "Mount", d, small, api.ErrRoom)
		if d.Down() {
			t.Error("something is done")
		}
		d.Arm(0)
		do(t, "Format", Format(d, small), api.ErrDown)
		refused(t, "Mount", d, small, api.ErrDown)
	}
	for _, m := range []api.Mast{{Gen: max - 1, Epoch: 1}, {Gen: 1, Epoch: max - 1}, {Gen: max - 1, Epoch: max - 1, Seq: max}} {
		next := api.Mast{Gen: m.Gen + 1, Epoch: m.Epoch + 1, Seq: m.Seq, Pages: 1}
		c := mounted(t, holding(t, small, m, nil), small)
		if got := c.Mast(); got != next {
			t.Errorf("Mount: %v, want %v", got, next)
		}
		d := holding(t, small, m, nil)
		do(t, "Format", Format(d, small), api.OK)
		next.Seq = 0
		picks(t, d, small, next, make([]int, 8))
		if next.Gen == max || next.Epoch == max {
			do(t, "Format", Format(d, small), api.ErrRoom)
		}
	}
}

// P20.1: each zone that isn't Empty is reset, be it Open, Closed, Full, or
// finished without a sector.
func TestFormatResets(t *testing.T) {
	d := holding(t, small, api.Mast{Gen: 1, Epoch: 1}, map[int]int{0: 1, 1: 9, 2: 25})
	zonesOfAllStates(t, d)
	do(t, "Format", Format(d, small), api.OK)
	for zone, z := range d.Zones()[2:] {
		if z != (api.Zone{}) {
			t.Errorf("zone %d: %v", 2+zone, z)
		}
	}
	if d.Cached() != 0 || d.Illegal() != 0 {
		t.Error(d.Cached(), d.Illegal())
	}
}

// zonesOfAllStates lets 2 be Closed, 3 Full, 4 finished without a sector, 5
// Open; 6 to 8 stay Empty.
func zonesOfAllStates(t *testing.T, d *dev.Device) {
	t.Helper()
	lay(t, d, 2, 0, api.Rec{Kind: api.Put, Epoch: 7, Seq: 1})
	for off := range 8 {
		lay(t, d, 3, off, api.Rec{Kind: api.Put, Epoch: 7, Seq: 2 + off, Block: 1})
	}
	do(t, "Finish", d.Finish(4), api.OK)
	do(t, "Flush", d.Flush(), api.OK)
	d.Crash(api.Wreck{})
	lay(t, d, 5, 0, api.Rec{Kind: api.Put, Epoch: 7, Seq: 10, Block: 2})
	for i, want := range []int{api.Closed, api.Full, api.Full, api.Open, api.Empty} {
		if z := d.Zones()[2+i]; z.State != want {
			t.Fatalf("zone %d: %v", 2+i, z)
		}
	}
}

// P20.1: the commands of a Format, one by one: the measure's sector, the
// checkpoint's, and not till that lasts the resets, rising.
func TestFormatInOrder(t *testing.T) {
	for armed := range 12 {
		d := holding(t, small, api.Mast{Gen: 2, Epoch: 2}, map[int]int{0: 1, 1: 9, 2: 25})
		zonesOfAllStates(t, d)
		d.Arm(armed)
		want := api.ErrDown
		if armed >= 10 {
			want = api.OK
		}
		do(t, "Format", Format(d, small), want)
		cached := []int{1, 2, 0, 1, 2, 3, 0}
		if n := cached[min(armed, 6)]; d.Cached() != n {
			t.Fatalf("%d commands: %d cached, want %d", armed, d.Cached(), n)
		}
		left := []api.Zone{{State: api.Closed, Point: 1}, {State: api.Full, Point: 8}, {State: api.Full}, {State: api.Open, Point: 1}}
		for i := range min(max(armed-6, 0), 4) {
			left[i] = api.Zone{}
		}
		if !slices.Equal(d.Zones()[2:6], left) {
			t.Fatalf("%d commands: %v, want %v", armed, d.Zones()[2:6], left)
		}
		if d.Down() != (armed <= 10) {
			t.Fatalf("%d commands: down %v", armed, d.Down())
		}
	}
}

// P20.1: a Format of a device that is down does nothing.
func TestFormatDown(t *testing.T) {
	for _, d := range []*dev.Device{dev.New(small), formatted(t, small)} {
		d.Arm(0)
		was := d.Clone()
		do(t, "Format", Format(d, small), api.ErrDown)
		sameDevice(t, d, was, small)
	}
}

// P20.2: a device that isn't formatted with the measure.
func TestNotFormatted(t *testing.T) {
	refused(t, "a new device", dev.New(small), small, api.ErrFormat)

	d := dev.New(small)
	do(t, "ckpt.Write", ckpt.Write(d, small, api.Mast{Gen: 1, Epoch: 1, Pages: 1}, table.New(8)), api.OK)
	refused(t, "a checkpoint alone", d, small, api.ErrFormat)
	do(t, "Write", d.Write(api.At{Zone: 0, Off: 4}, mast.LayGeom(small)), api.OK)
	do(t, "Write", d.Write(api.At{Zone: 1, Off: 0}, mast.LayGeom(small)), api.OK)
	refused(t, "the measure in other sectors", d, small, api.ErrFormat)
	do(t, "Write", d.Write(api.At{}, mast.LayGeom(small)), api.OK)
	mounted(t, d, small)

	d = dev.New(small)
	do(t, "Write", d.Write(api.At{}, mast.LayGeom(small)), api.OK)
	refused(t, "a measure alone", d, small, api.ErrFormat)

	d = formatted(t, small)
	do(t, "Write", d.Write(api.At{Zone: 0, Off: 3}, api.Page{}), api.OK)
	refused(t, "no foot", d, small, api.ErrFormat)

	d = formatted(t, small)
	p := mast.LayGeom(small)
	p[63] ^= 1
	do(t, "Write", d.Write(api.At{}, p), api.OK)
	refused(t, "a wrong sum", d, small, api.ErrFormat)

	d = formatted(t, small)
	do(t, "Write", d.Write(api.At{}, mast.Lay(api.Mast{Gen: 1, Epoch: 1, Pages: 1})), api.OK)
	refused(t, "a head where the measure should be", d, small, api.ErrFormat)
}

// P20.2: a device that is formatted with a measure is so with no other one.
func TestAnotherMeasure(t *testing.T) {
	d := formatted(t, small)
	for i := range 5 {
		g := small
		*[]*int{&g.Conv, &g.Soft, &g.Seq, &g.Size, &g.Open}[i]++
		refused(t, "another measure", d, g, api.ErrFormat)
		other := formatted(t, g)
		refused(t, "another device", other, small, api.ErrFormat)
		mounted(t, other, g)
	}
	mounted(t, d, small)
}

// P20.2: the sector of another measure stands on a device that has no room for
// its checkpoint: none is whole there.
func TestAMeasureThatIsTooLarge(t *testing.T) {
	large := api.Geom{Conv: 2, Soft: 64, Seq: 60, Size: 16, Open: 3}
	d := formatted(t, api.Geom{Conv: 2, Soft: 4, Seq: 6, Size: 8, Open: 3})
	do(t, "Write", d.Write(api.At{}, mast.LayGeom(large)), api.OK)
	if c, e := Mount(d, large); c != nil || e != api.ErrFormat {
		t.Error(c, e)
	}
}

// P20.2: a Mount of a device that is down.
func TestMountDown(t *testing.T) {
	for _, d := range []*dev.Device{dev.New(small), formatted(t, small)} {
		d.Arm(0)
		refused(t, "down", d, small, api.ErrDown)
	}
}

// P20.2: what the log tells is done, as far as its records follow one another,
// and hold together; what isn't done never comes to count.
func TestMountRollsForward(t *testing.T) {
	d := holding(t, small, api.Mast{Gen: 4, Epoch: 3, Seq: 100}, map[int]int{0: 1, 5: 2, 6: 3})
	for i, r := range []api.Rec{
		{Kind: api.Put, Epoch: 3, Seq: 98, Block: 0, Data: api.Data{10}},
		{Kind: api.Put, Epoch: 2, Seq: 101, Block: 5, Data: api.Data{15}},
		{Kind: api.Put, Epoch: 3, Seq: 99, Block: 6, Data: api.Data{16}},
		{Kind: api.Put, Epoch: 3, Seq: 101, Block: 1, Data: api.Data{21}},
		{Kind: api.Put, Epoch: 3, Seq: 104, Block: 2, Data: api.Data{22}},
		{Kind: api.Put, Epoch: 3, Seq: 106, Block: 3, Data: api.Data{23}},
		{Kind: api.Put, Epoch: 3, Seq: 109, Block: 4, Data: api.Data{24}},
	} {
		lay(t, d, 2, i, r)
	}
	for i, r := range []api.Rec{
		{Kind: api.Trim, Epoch: 3, Seq: 102, Block: 0},
		{Kind: api.Commit, Epoch: 3, Seq: 103, Count: 2},
		{Kind: api.Commit, Epoch: 3, Seq: 105, Count: 2},
		{Kind: api.Commit, Epoch: 3, Seq: 110, Count: 1},
	} {
		lay(t, d, 4, i, r)
	}
	c := mounted(t, d, small)
	next := api.Mast{Gen: 5, Epoch: 4, Seq: 106, Pages: 1}
	if m := c.Mast(); m != next {
		t.Errorf("%v, want %v", m, next)
	}
	bare(t, c, 0, 2, 3, 4, 7)
	reads(t, c, 1, 21)
	reads(t, c, 5, 15)
	reads(t, c, 6, 16)
	picks(t, d, small, next, []int{0, 4, 0, 0, 0, 2, 3, 0})
	points(t, d, 7, 0, 0, 0, 0, 0, 0)
	if p := c.Pool(); !slices.Equal(p.Points, []int{7, 0, 0, 0, 0, 0, 0}) || p.Heads != [3]int{2, 0, 0} {
		t.Error(p)
	}
	if d.Cached() != 0 || d.Illegal() != 0 || c.Live(2) != 3 {
		t.Error(d.Cached(), d.Illegal(), c.Live(2))
	}

	lay(t, d, 2, 7, api.Rec{Kind: api.Put, Epoch: 3, Seq: 107, Block: 3, Data: api.Data{33}})
	lay(t, d, 3, 0, api.Rec{Kind: api.Commit, Epoch: 3, Seq: 108, Count: 2})
	c = mounted(t, d, small)
	bare(t, c, 0, 2, 3, 4, 7)
	if m := c.Mast(); m != (api.Mast{Gen: 6, Epoch: 5, Seq: 106, Pages: 1}) {
		t.Error(m)
	}
	points(t, d, 8, 0)
}

// P20.2: the core goes on where the log ended, in the new epoch.
func TestMountGoesOn(t *testing.T) {
	d := formatted(t, small)
	c := mounted(t, d, small)
	do(t, "Commit", c.Commit([]api.Write{put(0, 1), put(3, 2)}), api.OK)
	do(t, "Commit", c.Commit([]api.Write{trim(3)}), api.OK)
	d.Crash(api.Wreck{Keep: []int{2, 2}})
	c = mounted(t, d, small)
	reads(t, c, 0, 1)
	reads(t, c, 3, 2)
	points(t, d, 2, 0)
	do(t, "Commit", c.Commit([]api.Write{put(1, 4)}), api.OK)
	p, e := d.Read(api.At{Zone: 2, Off: 2})
	r, _ := rec.Read(p)
	if e != api.OK || r != (api.Rec{Kind: api.Put, Epoch: 3, Seq: 5, Block: 1, Data: api.Data{4}}) {
		t.Error(r, e)
	}
	do(t, "Flush", c.Flush(), api.OK)
	d.Crash(api.Wreck{})
	c = mounted(t, d, small)
	reads(t, c, 0, 1)
	reads(t, c, 1, 4)
	reads(t, c, 3, 2)
}

// P20.2: each zone that isn't Empty, and has nothing live, is reset, whatever
// its state; those with live sectors stay.
func TestMountResets(t *testing.T) {
	for zone, place := range map[int]int{2: 1, 3: 11, 5: 25} {
		d := holding(t, small, api.Mast{Gen: 1, Epoch: 1}, map[int]int{4: place})
		zonesOfAllStates(t, d)
		was := d.Zones()[zone]
		c := mounted(t, d, small)
		for i, z := range d.Zones()[2:] {
			if 2+i == zone && z != was || 2+i != zone && z != (api.Zone{}) {
				t.Errorf("%d is live, zone %d: %v", zone, 2+i, z)
			}
		}
		if l := c.Cands(); zone == 3 && !slices.Equal(l, []api.Cand{{Zone: 3, Live: 1}}) || zone != 3 && len(l) != 0 {
			t.Errorf("%d is live: %v", zone, l)
		}
	}
}

// P20.2: the commands of a Mount, one by one: the checkpoint's, and not till
// that lasts the resets, rising.
func TestMountInOrder(t *testing.T) {
	for armed := range 10 {
		d := holding(t, small, api.Mast{Gen: 2, Epoch: 2}, map[int]int{1: 9})
		zonesOfAllStates(t, d)
		d.Arm(armed)
		want := api.ErrDown
		if armed >= 8 {
			want = api.OK
		}
		c, e := Mount(d, small)
		do(t, "Mount", e, want)
		if (c != nil) != (e == api.OK) {
			t.Fatalf("%d commands: %v %d", armed, c, e)
		}
		cached := []int{1, 0, 1, 2, 3, 0}
		if n := cached[min(armed, 5)]; d.Cached() != n {
			t.Fatalf("%d commands: %d cached, want %d", armed, d.Cached(), n)
		}
		left := []api.Zone{{State: api.Closed, Point: 1}, {State: api.Full, Point: 8}, {State: api.Full}, {State: api.Open, Point: 1}}
		for i, behind := range []int{6, 99, 7, 8} {
			if armed >= behind {
				left[i] = api.Zone{}
			}
		}
		if !slices.Equal(d.Zones()[2:6], left) {
			t.Fatalf("%d commands: %v, want %v", armed, d.Zones()[2:6], left)
		}
	}
}

// P20.2: a place that is told twice, in the checkpoint, or by a record where
// another block stands; nothing is done then.
func TestAPlaceToldTwice(t *testing.T) {
	m := api.Mast{Gen: 1, Epoch: 1}
	d := holding(t, small, m, map[int]int{0: 3, 7: 3})
	refused(t, "two blocks at one place", d, small, api.ErrBytes)

	d = holding(t, small, m, map[int]int{0: 1})
	lay(t, d, 2, 0, api.Rec{Kind: api.Put, Epoch: 1, Seq: 1, Block: 1})
	mounted(t, d.Clone(), small)
	lay(t, d, 2, 1, api.Rec{Kind: api.Commit, Epoch: 1, Seq: 2, Count: 1})
	refused(t, "a block where another one stands", d, small, api.ErrBytes)
	d.Arm(1)
	refused(t, "ahead of the first command", d, small, api.ErrBytes)
	d.Arm(-1)
	lay(t, d, 2, 2, api.Rec{Kind: api.Trim, Epoch: 1, Seq: 3, Block: 0})
	lay(t, d, 2, 3, api.Rec{Kind: api.Commit, Epoch: 1, Seq: 4, Count: 1})
	c := mounted(t, d, small)
	if l := c.Places(); !slices.Equal(l, []int{0, 1, 0, 0, 0, 0, 0, 0}) {
		t.Error(l)
	}

	d = holding(t, small, api.Mast{Gen: api.MaxNum, Epoch: 1}, map[int]int{0: 3, 7: 3})
	refused(t, "without a number behind", d, small, api.ErrRoom)
}

// P20.2: a checkpoint that tells of no place at all.
func TestNoPlace(t *testing.T) {
	for _, place := range []int{57, 1 << 31, 1<<32 - 1} {
		d := holding(t, small, api.Mast{Gen: 1, Epoch: 1}, map[int]int{0: place})
		refused(t, "no place", d, small, api.ErrBytes)
	}
	d := holding(t, small, api.Mast{Gen: 1, Epoch: 1}, map[int]int{0: 56})
	mounted(t, d, small)
}

// P20.2: no more than three zones may be in use by halves; those that are reset,
// and those that are used up, aren't.
func TestTooManyHalves(t *testing.T) {
	g := small
	g.Open = 7
	m := api.Mast{Gen: 1, Epoch: 1}
	begin := func(places map[int]int) *dev.Device {
		d := holding(t, g, m, places)
		for zone := 2; zone < 7; zone++ {
			lay(t, d, zone, 0, api.Rec{Kind: api.Put, Epoch: 9, Seq: zone, Block: zone})
		}
		return d
	}
	d := begin(map[int]int{2: 1, 3: 9, 4: 17, 6: 33})
	refused(t, "four of five", d, g, api.ErrBytes)
	d.Arm(1)
	refused(t, "ahead of the first command", d, g, api.ErrBytes)
	d.Arm(-1)
	do(t, "Finish", d.Finish(4), api.OK)
	c := mounted(t, d, g)
	if p := c.Pool(); !slices.Equal(p.Points, []int{1, 1, 8, 0, 1, 0, 0}) || p.Heads != [3]int{2, 3, 6} {
		t.Error(p)
	}

	d = begin(map[int]int{2: 1, 4: 17, 6: 33})
	c = mounted(t, d, g)
	if p := c.Pool(); !slices.Equal(p.Points, []int{1, 0, 1, 0, 1, 0, 0}) || p.Heads != [3]int{2, 4, 6} {
		t.Error(p)
	}
}

// P20.2: each Mount answers a core of its own, of which nothing is kept.
func TestCoresOfTheirOwn(t *testing.T) {
	d := formatted(t, small)
	c := mounted(t, d, small)
	do(t, "Commit", c.Commit([]api.Write{put(0, 1)}), api.OK)
	places, m := c.Places(), c.Mast()
	other := mounted(t, d.Clone(), small)
	do(t, "Commit", other.Commit([]api.Write{put(0, 2), put(1, 2)}), api.OK)
	if !slices.Equal(c.Places(), places) || c.Mast() != m {
		t.Error(c.Places(), c.Mast())
	}
	reads(t, c, 0, 1)
	reads(t, other, 0, 2)
}
