package core

import (
	"slices"
	"testing"

	"windrow/api"
	"windrow/ckpt"
	"windrow/dev"
	"windrow/geom"
	"windrow/rec"
	"windrow/roll"
	"windrow/scan"
	"windrow/table"
)

// formatted answers a device with a checkpoint of nothing, and its core.
func formatted(t *testing.T, g api.Geom) (*dev.Device, *Core) {
	t.Helper()
	d, u := dev.New(g), table.New(geom.Blocks(g))
	m := api.Mast{Gen: 1, Epoch: 1, Pages: geom.Pages(g)}
	if e := ckpt.Write(d, g, m, u); e != api.OK {
		t.Fatal(e)
	}
	return d, coreOf(t, d, g, m, u)
}

// told answers the blocks that a device tells: those of its newest checkpoint,
// with the records behind it.
func told(t *testing.T, d *dev.Device, g api.Geom) []api.Old {
	t.Helper()
	m, u, e := ckpt.Pick(d, g)
	if e != api.OK {
		t.Fatalf("no checkpoint: %d", e)
	}
	l, e := scan.All(d, g, m.Epoch, m.Seq)
	if e != api.OK {
		t.Fatal(e)
	}
	blocks := make([]api.Old, geom.Blocks(g))
	for block, place := range roll.Do(u.Places(), roll.Groups(scan.Chain(l, m.Seq))) {
		blocks[block].Block = block
		if a, ok := geom.At(g, place); ok {
			blocks[block].Has = true
			blocks[block].Data = putOf(t, d, a, block)
		}
	}
	return blocks
}

// putOf holds that at a place a block's Put stands, and answers its data.
func putOf(t *testing.T, d *dev.Device, a api.At, block int) api.Data {
	t.Helper()
	p, e := d.Read(a)
	if e != api.OK {
		t.Fatalf("block %d at %v: %d", block, a, e)
	}
	r, e := rec.Read(p)
	if e != api.OK || r.Kind != api.Put || r.Block != block {
		t.Fatalf("block %d at %v: %v %d", block, a, r, e)
	}
	return r.Data
}

// with answers the blocks behind some writes.
func with(blocks []api.Old, l []api.Write) []api.Old {
	blocks = slices.Clone(blocks)
	for _, w := range l {
		if w.Block < 0 || w.Block >= len(blocks) {
			continue
		}
		blocks[w.Block] = api.Old{Block: w.Block, Has: true, Data: w.Data}
		if w.Trim {
			blocks[w.Block] = api.Old{Block: w.Block}
		}
	}
	return blocks
}

// history is a core's blocks behind each commit; the last one may be but begun.
type history struct {
	d      *dev.Device
	c      *Core
	states [][]api.Old
	lasts  int // none ahead of this one may be lost
}

// step does one thing that hangs on chance, and notes what comes of it.
func (h *history) step(t *testing.T, g api.Geom, c *chance) api.Errno {
	t.Helper()
	var e api.Errno
	what, l := c.below(12), []api.Write(nil)
	switch {
	case what < 8:
		l = c.writes(g)
		e = h.c.Commit(l)
	case what < 10:
		for _, x := range h.c.Cands() {
			if x.Live < g.Size {
				e = h.c.Move(x.Zone)
				break
			}
		}
	case what < 11:
		e = h.c.Checkpoint()
	default:
		e = h.c.Flush()
	}
	if e == api.OK || e == api.ErrDown {
		h.states = append(h.states, with(h.states[len(h.states)-1], l))
	}
	if e == api.OK && h.d.Cached() == 0 {
		h.lasts = len(h.states) - 1
	}
	return e
}

// holds holds that the device tells the blocks behind one of the commits, none
// of those that last being lost.
func (h *history) holds(t *testing.T, g api.Geom) {
	t.Helper()
	blocks := told(t, h.d, g)
	for _, state := range h.states[h.lasts:] {
		if slices.Equal(blocks, state) {
			return
		}
	}
	t.Fatalf("%v isn't what any commit behind the number %d left", blocks, h.lasts)
}

// P19.2 to P19.4: behind a crash at whichever command, whatever it leaves, the
// device tells the blocks as of some commit: each commit is there, or not, as a
// whole, Moves and Checkpoints change none, and no zone is reset too early.
func TestCrashes(t *testing.T) {
	for i, g := range []api.Geom{least, small, odd} {
		for armed := range 300 {
			c := chance(1000*i + armed/3)
			d, k := formatted(t, g)
			h := &history{d: d, c: k, states: [][]api.Old{told(t, d, g)}}
			d.Arm(armed)
			for h.step(t, g, &c) != api.ErrDown {
			}
			if d.Illegal() != 0 {
				t.Fatal("a command was illegal")
			}
			for n := range 6 {
				crashed := *h
				crashed.d = d.Clone()
				crashed.d.Crash(wreck(g, &c, n))
				crashed.holds(t, g)
			}
		}
	}
}

// wreck answers what a crash leaves: nothing, all, or what hangs on chance.
func wreck(g api.Geom, c *chance, n int) api.Wreck {
	switch n {
	case 0:
		return api.Wreck{}
	case 1:
		return api.Wreck{Keep: slices.Repeat([]int{g.Size}, g.Seq), Soft: ^uint64(0)}
	}
	w := api.Wreck{Keep: make([]int, g.Seq), Soft: uint64(c.below(1 << 20)), Tear: c.below(64)}
	for i := range w.Keep {
		w.Keep[i] = c.below(g.Size + 1)
	}
	return w
}

// P19.2: a zone that is used up is flushed, so that behind a crash, whatever it
// leaves, no more zones are begun than there are streams.
func TestCrashLeavesAPool(t *testing.T) {
	for armed := range 300 {
		c := chance(armed / 3)
		d, k := formatted(t, least)
		h := &history{d: d, c: k, states: [][]api.Old{told(t, d, least)}}
		d.Arm(armed)
		for h.step(t, least, &c) != api.ErrDown {
		}
		for n := range 6 {
			crashed := d.Clone()
			crashed.Crash(wreck(least, &c, n))
			coreOf(t, crashed, least, api.Mast{Gen: 1, Epoch: 1}, table.New(geom.Blocks(least)))
		}
	}
}
