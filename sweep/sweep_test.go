package sweep

import (
	"math"
	"slices"
	"testing"

	"windrow/api"
	"windrow/core"
	"windrow/dev"
	"windrow/geom"
	"windrow/mount"
	"windrow/table"
)

// small has 12 blocks, in two pages, of which a transaction writes at most 4;
// its sequential zones are 2 to 9.
var small = api.Geom{Conv: 2, Soft: 8, Seq: 8, Size: 8, Open: 3}

// both are the policies.
var both = []int{api.Greedy, api.Benefit}

// do holds that an error is the one that is wanted.
func do(t *testing.T, what string, e, want api.Errno) {
	t.Helper()
	if e != want {
		t.Fatalf("%s: %d, want %d", what, e, want)
	}
}

// begun answers a device that is formatted and mounted, and its core.
func begun(t *testing.T, g api.Geom) (*dev.Device, *core.Core) {
	t.Helper()
	d := dev.New(g)
	do(t, "Format", mount.Format(d, g), api.OK)
	return d, mounted(t, d, g)
}

// mounted holds that a device is mounted, and answers its core.
func mounted(t *testing.T, d *dev.Device, g api.Geom) *core.Core {
	t.Helper()
	c, e := mount.Mount(d, g)
	do(t, "Mount", e, api.OK)
	return c
}

// numbered answers a core that is the same, but for its numbers.
func numbered(d *dev.Device, c *core.Core, g api.Geom, m api.Mast) *core.Core {
	m.Pages = geom.Pages(g)
	return core.New(d, g, m, tableOf(c), c.Pool())
}

// tableOf answers a table with a core's places.
func tableOf(c *core.Core) *table.Table {
	places := c.Places()
	u := table.New(len(places))
	for block, place := range places {
		u.Set(block, place)
	}
	return u
}

func put(block int, x byte) api.Write { return api.Write{Block: block, Data: api.Data{x}} }

// commit holds that some blocks are committed, with data that begin with x.
func commit(t *testing.T, c *core.Core, x byte, blocks ...int) {
	t.Helper()
	var l []api.Write
	for _, block := range blocks {
		l = append(l, put(block, x))
	}
	do(t, "Commit", c.Commit(l), api.OK)
}

// steps holds what a Step answers.
func steps(t *testing.T, c *core.Core, g api.Geom, policy, want int, e api.Errno) {
	t.Helper()
	if zone, f := Step(c, g, policy); zone != want || f != e {
		t.Fatalf("Step by %d: %d %d, want %d %d", policy, zone, f, want, e)
	}
}

// idles holds that a Step by each policy answers that there is nothing to clean,
// and does nothing.
func idles(t *testing.T, d *dev.Device, c *core.Core, g api.Geom) {
	t.Helper()
	stays(t, d, c, g, api.OK)
}

// stays holds that a Step by each policy answers an error, and does nothing.
func stays(t *testing.T, d *dev.Device, c *core.Core, g api.Geom, e api.Errno) {
	t.Helper()
	was, m, places, p := d.Clone(), c.Mast(), c.Places(), c.Pool()
	for _, policy := range both {
		steps(t, c, g, policy, 0, e)
	}
	sameDevice(t, d, was, g)
	if c.Mast() != m || !slices.Equal(c.Places(), places) || !samePool(c.Pool(), p) {
		t.Fatalf("something was done: %v %v %v", c.Mast(), c.Places(), c.Pool())
	}
}

// samePool tells whether two pools are one.
func samePool(p, q api.Pool) bool { return slices.Equal(p.Points, q.Points) && p.Heads == q.Heads }

// sameDevice holds that two devices are the same, as far as they tell.
func sameDevice(t *testing.T, d, want *dev.Device, g api.Geom) {
	t.Helper()
	if d.Illegal() != want.Illegal() || d.Down() != want.Down() || d.Cached() != want.Cached() {
		t.Fatalf("%d illegal, down %v, %d cached; want %d, %v, %d",
			d.Illegal(), d.Down(), d.Cached(), want.Illegal(), want.Down(), want.Cached())
	}
	if !slices.Equal(d.Zones(), want.Zones()) {
		t.Fatalf("%v, want %v", d.Zones(), want.Zones())
	}
	// A device that is down reads nothing: its clones are crashed.
	d, want = lasting(d), lasting(want)
	for zone := range d.Zones() {
		for off := range geom.Sectors(g, zone) {
			a := api.At{Zone: zone, Off: off}
			p, e := d.Read(a)
			q, f := want.Read(a)
			if e != f || p != q {
				t.Fatalf("sector %v: %v %d, want %v %d", a, p, e, q, f)
			}
		}
	}
}

// lasting answers a device of which all is left.
func lasting(d *dev.Device) *dev.Device {
	d = d.Clone()
	d.Crash(api.Wreck{Keep: slices.Repeat([]int{api.MaxSize}, api.MaxZones), Soft: math.MaxUint64})
	return d
}

// zones holds how many sectors of the zones from 2 on are written.
func zones(t *testing.T, d *dev.Device, want ...int) {
	t.Helper()
	for i, n := range want {
		if z := d.Zones()[2+i]; z.Point != n || n == 0 && z.State != api.Empty {
			t.Fatalf("zone %d is %v, want %d sectors", 2+i, z, n)
		}
	}
}

// has holds a core's numbers: in these tests the epoch is always 2.
func has(t *testing.T, c *core.Core, gen, seq int) {
	t.Helper()
	want := api.Mast{Gen: gen, Epoch: 2, Seq: seq, Pages: 2}
	if c.Mast() != want {
		t.Fatalf("Mast: %v, want %v", c.Mast(), want)
	}
}

// stand holds where all blocks stand.
func stand(t *testing.T, c *core.Core, want ...int) {
	t.Helper()
	if l := c.Places(); !slices.Equal(l, want) {
		t.Fatalf("Places: %v, want %v", l, want)
	}
}

// blocksOf answers what a core tells of all blocks.
func blocksOf(t *testing.T, c *core.Core, g api.Geom) []api.Old {
	t.Helper()
	blocks := make([]api.Old, geom.Blocks(g))
	for block := range blocks {
		o, e := c.Read(block)
		do(t, "Read", e, api.OK)
		blocks[block] = o
	}
	return blocks
}

// unlike answers a device of which two zones are used up: 2, the elder one, in
// which the blocks 5 to 7 are live, and 4, in which 10 and 11 are. Zone 5 is the
// head of Hot, zone 3 that of Log.
func unlike(t *testing.T) (*dev.Device, *core.Core) {
	t.Helper()
	d, c := begun(t, small)
	commit(t, c, 1, 0, 1, 2, 3)
	commit(t, c, 2, 4, 5, 6, 7)
	commit(t, c, 3, 8, 9, 10, 11)
	commit(t, c, 4, 0, 1, 2, 3)
	commit(t, c, 5, 0, 1, 2, 3)
	commit(t, c, 6, 4, 8, 9)
	want := []api.Cand{{Zone: 2, Live: 3, Age: 20}, {Zone: 4, Live: 2, Age: 10}}
	if l := c.Cands(); !slices.Equal(l, want) {
		t.Fatalf("Cands: %v, want %v", l, want)
	}
	stand(t, c, 25, 26, 27, 28, 29, 6, 7, 8, 30, 31, 19, 20)
	zones(t, d, 8, 6, 8, 7, 0, 0, 0, 0)
	has(t, c, 2, 29)
	return d, c
}

// P21.1: the chapter's example.
func TestExample(t *testing.T) {
	d, c := begun(t, small)
	idles(t, d, c, small)
	commit(t, c, 1, 0, 1, 2, 3)
	commit(t, c, 2, 4, 5, 6)
	idles(t, d, c, small)
}

// P21.1: by Greedy the zone with fewer live sectors is moved; then a checkpoint
// is written, behind which it is unused. So on, till there is nothing to clean.
func TestGreedy(t *testing.T) {
	d, c := unlike(t)
	blocks := blocksOf(t, c, small)
	steps(t, c, small, api.Greedy, 4, api.OK)
	stand(t, c, 25, 26, 27, 28, 29, 6, 7, 8, 30, 31, 33, 34)
	zones(t, d, 8, 7, 0, 7, 2, 0, 0, 0)
	has(t, c, 3, 32)
	steps(t, c, small, api.Greedy, 2, api.OK)
	stand(t, c, 25, 26, 27, 28, 29, 35, 36, 37, 30, 31, 33, 34)
	// The zone of Log is used up too, and has nothing live.
	zones(t, d, 0, 0, 0, 7, 5, 0, 0, 0)
	has(t, c, 4, 36)
	idles(t, d, c, small)
	if !slices.Equal(blocksOf(t, c, small), blocks) || d.Illegal() != 0 {
		t.Error("the blocks are other ones, or a command was illegal")
	}
	d.Crash(api.Wreck{})
	if c = mounted(t, d, small); !slices.Equal(blocksOf(t, c, small), blocks) {
		t.Error("what a Step wrote doesn't last")
	}
}

// P21.1: by Benefit the elder zone is worth more, though more of it is live.
func TestBenefit(t *testing.T) {
	d, c := unlike(t)
	steps(t, c, small, api.Benefit, 2, api.OK)
	stand(t, c, 25, 26, 27, 28, 29, 33, 34, 35, 30, 31, 19, 20)
	zones(t, d, 0, 7, 8, 7, 3, 0, 0, 0)
	has(t, c, 3, 33)
	steps(t, c, small, api.Benefit, 4, api.OK)
	zones(t, d, 0, 0, 0, 7, 5, 0, 0, 0)
	idles(t, d, c, small)
}

// P21.1: any policy but Benefit is Greedy.
func TestOtherPolicies(t *testing.T) {
	for _, policy := range []int{api.Greedy, -1, 2, 7, math.MinInt, math.MaxInt} {
		_, c := unlike(t)
		steps(t, c, small, policy, 4, api.OK)
	}
}

// P21.1: a zone in which nothing is live is chosen ahead of others by Greedy;
// nothing is written of it but the checkpoint. So are all such zones reset.
func TestNothingLive(t *testing.T) {
	d, c := begun(t, small)
	for i := range byte(8) {
		commit(t, c, i, 0)
	}
	zones(t, d, 8, 8, 0)
	steps(t, c, small, api.Greedy, 3, api.OK)
	zones(t, d, 8, 0, 0)
	has(t, c, 3, 16)
	commit(t, c, 9, 0)
	zones(t, d, 8, 1, 1)
	steps(t, c, small, api.Greedy, 2, api.OK)
	zones(t, d, 0, 1, 1)
	has(t, c, 4, 18)
	idles(t, d, c, small)
	commit(t, c, 10, 0, 1, 2, 3)
	commit(t, c, 11, 0, 1, 2)
	for i := range byte(5) {
		commit(t, c, 12+i, 0, 1, 2, 3)
	}
	// Nothing is live in the zones 2, 3 and 5, nor in 4, that of Log.
	zones(t, d, 8, 8, 8, 8, 4, 0)
	steps(t, c, small, api.Greedy, 2, api.OK)
	zones(t, d, 0, 0, 0, 0, 4, 0)
	has(t, c, 5, 52)
	idles(t, d, c, small)
}

// P21.1: a zone that is live all over isn't chosen: nothing is done.
func TestAllLive(t *testing.T) {
	d, c := begun(t, small)
	commit(t, c, 1, 0, 1, 2, 3)
	commit(t, c, 2, 4, 5, 6, 7)
	if l := c.Cands(); len(l) != 1 || l[0].Live != 8 {
		t.Fatal(l)
	}
	idles(t, d, c, small)
	commit(t, c, 3, 4)
	steps(t, c, small, api.Benefit, 2, api.OK)
}

// P21.1: the first error of both: the device goes down behind each of a step's
// commands, three sectors of the Move, a Flush, four sectors of the checkpoint, a
// Flush, and a Reset; nothing but the error is told then.
func TestDown(t *testing.T) {
	for armed := range 12 {
		d, c := unlike(t)
		words, p := unlike(t)
		d.Arm(armed)
		words.Arm(armed)
		if e := p.Move(4); e == api.OK {
			p.Checkpoint()
		}
		if armed < 10 {
			steps(t, c, small, api.Greedy, 0, api.ErrDown)
		} else {
			steps(t, c, small, api.Greedy, 4, api.OK)
		}
		if d.Down() != (armed <= 10) {
			t.Fatalf("armed by %d: down %v", armed, d.Down())
		}
		sameDevice(t, d, words, small)
	}
}

// P21.1: where nothing may be chosen, no command is sent: so there is no error.
func TestDownWithNothingToDo(t *testing.T) {
	d, c := begun(t, small)
	d.Arm(0)
	idles(t, d, c, small)
}

// P21.1: the first error of both: behind a Move that is refused, as there are
// not as many numbers left, no checkpoint is written.
func TestLastNumbers(t *testing.T) {
	for left := range 5 {
		d, c := unlike(t)
		c = numbered(d, c, small, api.Mast{Gen: 2, Epoch: 2, Seq: api.MaxNum - left})
		if left < 3 {
			stays(t, d, c, small, api.ErrRoom)
			continue
		}
		steps(t, c, small, api.Greedy, 4, api.OK)
		has(t, c, 3, api.MaxNum-left+3)
	}
}

// P21.1: the first error of both: the checkpoint's, behind a Move that was done.
func TestLastCheckpoint(t *testing.T) {
	d, c := unlike(t)
	c = numbered(d, c, small, api.Mast{Gen: api.MaxNum - 1, Epoch: 2, Seq: 29})
	steps(t, c, small, api.Greedy, 4, api.OK)
	has(t, c, api.MaxNum, 32)
	steps(t, c, small, api.Greedy, 0, api.ErrRoom)
	has(t, c, api.MaxNum, 36)
	stand(t, c, 25, 26, 27, 28, 29, 35, 36, 37, 30, 31, 33, 34)
	zones(t, d, 8, 8, 0, 7, 5, 0, 0, 0)
}

// P21.1: where nothing may be chosen, numbers aren't needed.
func TestNoNumbersAndNothingToDo(t *testing.T) {
	d, c := begun(t, small)
	c = numbered(d, c, small, api.Mast{Gen: api.MaxNum, Epoch: 2, Seq: api.MaxNum})
	idles(t, d, c, small)
}

// P21.1: four times the sequential zones, and four, whatever else there is.
func TestSteps(t *testing.T) {
	for seq, want := range map[int]int{6: 28, 7: 32, 8: 36, 20: 84, 61: 248, 62: 252} {
		for _, size := range []int{8, 9, 256} {
			g := api.Geom{Conv: 2, Soft: 1 << 16, Seq: seq, Size: size, Open: 3}
			if n := Steps(g); n != want {
				t.Errorf("Steps(%v): %d, want %d", g, n, want)
			}
		}
	}
}
