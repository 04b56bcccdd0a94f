package mount

import (
	"slices"
	"testing"

	"windrow/api"
	"windrow/core"
	"windrow/dev"
	"windrow/geom"
	"windrow/lane"
	"windrow/pool"
)

// history is a device, its core, and what its blocks were behind each commit
// since the last Mount; the last one may be but begun.
type history struct {
	g      api.Geom
	d      *dev.Device
	c      *core.Core
	states [][]api.Old
	lasts  int  // none ahead of this one may be lost
	half   bool // a Format was cut off
}

// begun answers the history of a device that is formatted and mounted.
func begun(t *testing.T, g api.Geom) *history {
	t.Helper()
	h := &history{g: g, d: formatted(t, g)}
	h.states = [][]api.Old{nothing(g)}
	h.mount(t)
	return h
}

// nothing answers the blocks of a device on which none is.
func nothing(g api.Geom) []api.Old {
	blocks := make([]api.Old, geom.Blocks(g))
	for block := range blocks {
		blocks[block].Block = block
	}
	return blocks
}

// blocksOf answers what a core tells of all blocks.
func blocksOf(t *testing.T, c *core.Core, g api.Geom) []api.Old {
	t.Helper()
	blocks := make([]api.Old, geom.Blocks(g))
	for block := range blocks {
		o, e := c.Read(block)
		if e != api.OK {
			t.Fatalf("Read(%d): %d", block, e)
		}
		blocks[block] = o
	}
	return blocks
}

// with answers the blocks behind some writes.
func with(blocks []api.Old, l []api.Write) []api.Old {
	blocks = slices.Clone(blocks)
	for _, w := range l {
		blocks[w.Block] = api.Old{Block: w.Block, Has: !w.Trim, Data: w.Data}
	}
	return blocks
}

// mount mounts the device, and holds that it tells the blocks as of some commit,
// none of those that last being lost, that it tells the same when it is mounted
// twice, and that there is room for the cleaner.
func (h *history) mount(t *testing.T) {
	t.Helper()
	h.c = mounted(t, h.d, h.g)
	blocks := blocksOf(t, h.c, h.g)
	if !slices.ContainsFunc(h.states[h.lasts:], func(l []api.Old) bool { return slices.Equal(l, blocks) }) {
		t.Fatalf("%v isn't what any commit behind the number %d of %d left", blocks, h.lasts, len(h.states))
	}
	h.states, h.lasts, h.half = [][]api.Old{blocks}, 0, false
	free := pool.Free(h.g, h.c.Pool())
	if keep := lane.Keep(h.g, h.c.Pool()); len(free) < keep {
		t.Fatalf("the zones %v are free, %d must stay so", free, keep)
	}
	again := mounted(t, h.d.Clone(), h.g)
	if !slices.Equal(blocksOf(t, again, h.g), blocks) {
		t.Fatal("mounted twice, it tells something else")
	}
	if h.d.Illegal() != 0 || h.d.Cached() != 0 {
		t.Fatal(h.d.Illegal(), h.d.Cached())
	}
}

// commit commits some writes, and notes what comes of it.
func (h *history) commit(l ...api.Write) api.Errno {
	return h.note(h.c.Commit(l), with(h.states[len(h.states)-1], l))
}

// note notes that the blocks are behind a thing, if it was done or begun, and
// that they last, if nothing is cached any more.
func (h *history) note(e api.Errno, blocks []api.Old) api.Errno {
	if e == api.OK || e == api.ErrDown {
		h.states = append(h.states, blocks)
	}
	if e == api.OK && h.d.Cached() == 0 {
		h.lasts = len(h.states) - 1
	}
	return e
}

// step does one thing that hangs on chance.
func (h *history) step(c *chance) api.Errno {
	now := h.states[len(h.states)-1]
	switch what := c.below(24); {
	case what < 15:
		return h.commit(c.writes(h.g)...)
	case what < 19:
		return h.note(h.move(), now)
	case what < 21:
		return h.note(h.c.Checkpoint(), now)
	case what < 22:
		return h.note(h.c.Flush(), now)
	case what < 23:
		return h.note(h.again(), now)
	case c.below(4) == 0:
		if e := h.note(Format(h.d, h.g), nothing(h.g)); e != api.OK {
			h.half = true
			return e
		}
		return h.note(h.again(), nothing(h.g))
	}
	return api.OK
}

// again mounts a device that may go down within.
func (h *history) again() api.Errno {
	c, e := Mount(h.d, h.g)
	if e == api.OK {
		h.c = c
	}
	return e
}

// move moves what is live in the zone of which the least is.
func (h *history) move() api.Errno {
	best, live := 0, h.g.Size
	for _, x := range h.c.Cands() {
		if x.Live < live {
			best, live = x.Zone, x.Live
		}
	}
	return h.c.Move(best)
}

// writes makes up writes that can be committed.
func (c *chance) writes(g api.Geom) []api.Write {
	var l []api.Write
	n := 1 + c.below(geom.Most(g))
	for block := range geom.Blocks(g) {
		if c.below(geom.Blocks(g)-block) >= n-len(l) {
			continue
		}
		w := api.Write{Block: block, Trim: c.below(4) == 0}
		if !w.Trim {
			w.Data = api.Data{byte(c.below(256)), byte(c.below(256)), 31: byte(c.below(256))}
		}
		l = append(l, w)
	}
	return l
}

// wreck answers what a crash leaves: nothing, all, or what hangs on chance.
func (c *chance) wreck(g api.Geom) api.Wreck {
	switch c.below(8) {
	case 0:
		return api.Wreck{}
	case 1:
		return api.Wreck{Keep: slices.Repeat([]int{g.Size}, g.Seq), Soft: ^uint64(0)}
	}
	w := api.Wreck{Keep: make([]int, g.Seq), Soft: uint64(c.below(1 << 20)), Tear: c.below(66)}
	for i := range w.Keep {
		w.Keep[i] = c.below(g.Size + 1)
	}
	return w
}

// P20.3: long walks of commits, Moves, Checkpoints, Mounts and Formats, with
// crashes behind whichever command, that leave what they leave, and with some
// more of them within the Mounts behind.
func TestCrashes(t *testing.T) {
	cut := 0
	for i, g := range []api.Geom{tight, small, odd, wide} {
		for seed := range 60 {
			c := chance(1000*i + seed)
			h := begun(t, g)
			for range 12 {
				h.d.Arm(1 + c.below(1+c.below(120)))
				for h.step(&c) != api.ErrDown && !h.d.Down() {
				}
				h.d.Crash(c.wreck(g))
				cut += h.cut(t, &c)
				h.mount(t)
			}
		}
	}
	if cut < 500 {
		t.Errorf("but %d Mounts were cut off", cut)
	}
}

// tight has the least of all kinds, and no more open zones than there must be.
var tight = api.Geom{Conv: 2, Soft: 4, Seq: 6, Size: 8, Open: 3}

// cut at times cuts some Mounts off, and tells how many. It doesn't behind half a
// Format, where there are several pages: both write a checkpoint of the same
// Gen, whose foot's Sum is the same too (each page's sector ends in a sum of its
// own), so that what is left of both may make one that is whole, of pages of
// either. The chapters leave nothing by which to tell it.
func (h *history) cut(t *testing.T, c *chance) int {
	t.Helper()
	cut := 0
	if h.half && geom.Pages(h.g) > 1 {
		return cut
	}
	for c.below(2) == 0 {
		h.d.Arm(c.below(8))
		_, e := Mount(h.d, h.g)
		if e != api.OK && e != api.ErrDown {
			t.Fatalf("Mount: %d", e)
		}
		if e == api.ErrDown {
			cut++
		}
		h.d.Crash(c.wreck(h.g))
	}
	return cut
}

// full answers the history of a device on which zones of all kinds are: used up
// and begun, with live sectors and without.
func full(t *testing.T, g api.Geom) *history {
	t.Helper()
	h := begun(t, g)
	for i := range byte(5) {
		do(t, "Commit", h.commit(put(0, 1+i), put(1, 2+i), trim(2)), api.OK)
	}
	do(t, "Commit", h.commit(put(2, 9)), api.OK)
	do(t, "Flush", h.note(h.c.Flush(), h.states[len(h.states)-1]), api.OK)
	do(t, "Commit", h.commit(put(0, 8)), api.OK)
	do(t, "Commit", h.commit(trim(1), put(2, 8)), api.OK)
	return h
}

// copied answers the same history, with a device of its own.
func (h *history) copied() *history {
	c := *h
	c.d = h.d.Clone()
	return &c
}

// P20.3: a crash of a device with commits that don't last, then one within the
// Mount, behind each of its commands, whatever both leave.
func TestCrashesWithinAMount(t *testing.T) {
	for _, g := range []api.Geom{tight, small} {
		base := full(t, g)
		for kept := range 4 {
			h := base.copied()
			h.d.Crash(api.Wreck{Keep: slices.Repeat([]int{kept}, g.Seq), Tear: 20 * kept})
			for armed := range 12 {
				for soft := range uint64(8) {
					k := h.copied()
					k.d.Arm(armed)
					_, e := Mount(k.d, g)
					if e != api.OK && e != api.ErrDown {
						t.Fatal(e)
					}
					k.d.Crash(api.Wreck{Soft: soft, Tear: int(soft) * 9})
					k.mount(t)
				}
			}
		}
	}
}

// P20.3: a crash within a Format, behind each of its commands, whatever it
// leaves: what was there is there, or nothing is.
func TestCrashesWithinAFormat(t *testing.T) {
	for _, g := range []api.Geom{tight, small} {
		h := full(t, g)
		do(t, "Flush", h.note(h.c.Flush(), h.states[len(h.states)-1]), api.OK)
		for armed := range 14 {
			for soft := range uint64(16) {
				k := h.copied()
				k.d.Arm(armed)
				if e := k.note(Format(k.d, g), nothing(g)); e != api.OK && e != api.ErrDown {
					t.Fatal(e)
				}
				k.d.Crash(api.Wreck{Soft: soft, Tear: int(soft) * 4})
				k.mount(t)
			}
		}
	}
}

// P20.3: a Format within which a device that never was formatted crashes: it is
// formatted, or it isn't, and can be formatted then.
func TestCrashesWithinTheFirstFormat(t *testing.T) {
	for armed := range 7 {
		for soft := range uint64(16) {
			d := dev.New(small)
			d.Arm(armed)
			e := Format(d, small)
			d.Crash(api.Wreck{Soft: soft, Tear: int(soft) * 4})
			if c, f := Mount(d.Clone(), small); e == api.OK || f != api.ErrFormat {
				do(t, "Mount", f, api.OK)
				if !slices.Equal(blocksOf(t, c, small), nothing(small)) {
					t.Fatal("there are blocks")
				}
			}
			do(t, "Format", Format(d, small), api.OK)
			mounted(t, d, small)
		}
	}
}

// P20.3: a record is lost in one zone, a later one stands in another zone: it
// counts for nothing, then and later.
func TestALaterRecordCountsForNothing(t *testing.T) {
	h := begun(t, small)
	do(t, "Commit", h.commit(put(0, 1)), api.OK)
	do(t, "Flush", h.note(h.c.Flush(), h.states[1]), api.OK)
	do(t, "Commit", h.commit(put(1, 2)), api.OK)
	do(t, "Commit", h.commit(trim(0)), api.OK)
	h.d.Crash(api.Wreck{Keep: []int{0, 9}})
	h.mount(t)
	reads(t, h.c, 0, 1)
	bare(t, h.c, 1)
	do(t, "Commit", h.commit(put(2, 3)), api.OK)
	h.d.Crash(api.Wreck{Keep: []int{9, 9}})
	h.mount(t)
	reads(t, h.c, 0, 1)
	reads(t, h.c, 2, 3)
	bare(t, h.c, 1)
}

// P20.3: a device of which all zones but those that must stay free are used is
// mounted, and its core goes on.
func TestMountOfAFullDevice(t *testing.T) {
	h := begun(t, tight)
	for i := 0; ; i++ {
		if e := h.commit(put(i%4, byte(1+i))); e != api.OK {
			do(t, "Commit", e, api.ErrRoom)
			break
		}
	}
	now := h.states[len(h.states)-1]
	h.states, h.lasts = [][]api.Old{now}, 0
	h.mount(t)
	if n := len(pool.Full(tight, h.c.Pool())); n > 1 {
		t.Errorf("%d zones are still used up", n)
	}
	do(t, "Commit", h.commit(put(0, 77)), api.OK)
	reads(t, h.c, 0, 77)
}
