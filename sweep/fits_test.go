package sweep

import (
	"slices"
	"testing"

	"windrow/api"
	"windrow/core"
	"windrow/dev"
	"windrow/geom"
	"windrow/pool"
	"windrow/rec"
	"windrow/table"
)

// rooms writes the rooms of the streams' heads short: none, if it is 0.
func rooms(hot, cold, log int) [api.Streams]int {
	return [api.Streams]int{api.Hot: hot, api.Cold: cold, api.Log: log}
}

// poolOf answers a right pool: the first zones are the heads of the streams that
// have room, all behind are used up, but for the last ones, that are free.
func poolOf(t *testing.T, g api.Geom, room [api.Streams]int, free int) api.Pool {
	t.Helper()
	p := api.Pool{Points: slices.Repeat([]int{g.Size}, g.Seq)}
	for stream, n := range room {
		if n > 0 {
			p.Points[stream] = g.Size - n
			p.Heads[stream] = g.Conv + stream
		}
	}
	for i := range free {
		p.Points[g.Seq-1-i] = 0
	}
	if !pool.Right(g, p) || len(pool.Free(g, p)) != free {
		t.Fatalf("the pool isn't right: %v", p)
	}
	return p
}

// coreOf answers a right core with a pool: of the used sectors those hold blocks
// at which they stand.
func coreOf(t *testing.T, g api.Geom, m api.Mast, u *table.Table, p api.Pool) (*dev.Device, *core.Core) {
	t.Helper()
	d := dev.New(g)
	// Those that stay open come last: no more may be than there are streams.
	for i, point := range p.Points {
		if point == g.Size {
			fill(t, d, g, i, point, u.Places())
		}
	}
	for i, point := range p.Points {
		if point < g.Size {
			fill(t, d, g, i, point, u.Places())
		}
	}
	return d, core.New(d, g, m, u, p)
}

// fill writes n sectors of a zone: Puts of the blocks that stand there, and
// records that count for nothing.
func fill(t *testing.T, d *dev.Device, g api.Geom, i, n int, places []int) {
	t.Helper()
	for off := range n {
		a := api.At{Zone: g.Conv + i, Off: off}
		r := api.Rec{Kind: api.Trim, Epoch: 1, Seq: 1}
		if block := slices.Index(places, geom.Num(g, a)); block >= 0 {
			r = api.Rec{Kind: api.Put, Epoch: 1, Seq: 1, Block: block, Data: api.Data{9, byte(block)}}
		}
		do(t, "Write", d.Write(a, rec.Lay(r)), api.OK)
	}
}

// empty answers a right core with a pool, and without blocks.
func empty(t *testing.T, g api.Geom, p api.Pool) (*dev.Device, *core.Core) {
	t.Helper()
	m := api.Mast{Gen: 1, Epoch: 2, Pages: geom.Pages(g)}
	return coreOf(t, g, m, table.New(geom.Blocks(g)), p)
}

// taken tells of which numbers of puts, the others being trims, a transaction of
// the most blocks is let in, by letting the same core commit it.
func taken(t *testing.T, d *dev.Device, c *core.Core, g api.Geom) []int {
	t.Helper()
	var l []int
	for puts := range g.Size/2 + 1 {
		var writes []api.Write
		for block := range g.Size / 2 {
			writes = append(writes, api.Write{Block: block, Trim: block >= puts})
		}
		e := numbered(d.Clone(), c, g, c.Mast()).Commit(writes)
		if e == api.OK {
			l = append(l, puts)
			continue
		}
		do(t, "Commit", e, api.ErrRoom)
	}
	return l
}

// fits holds what Fits answers of a pool, and of which numbers of puts a
// transaction is let in.
func fits(t *testing.T, room [api.Streams]int, free int, want bool, puts ...int) {
	t.Helper()
	d, c := empty(t, small, poolOf(t, small, room, free))
	if got := Fits(c, small); got != want {
		t.Errorf("rooms %v, %d free: %v, want %v", room, free, got, want)
	}
	if l := taken(t, d, c, small); !slices.Equal(l, puts) {
		t.Errorf("rooms %v, %d free: %v puts are let in, want %v", room, free, l, puts)
	}
}

// P21.1: by hand, a zone under and over each edge. A transaction takes up to 4
// sectors of Hot, up to 5 of Log; a zone must stay free behind it, and two, if
// the head of Log is used up just then.
func TestFits(t *testing.T) {
	all := []int{0, 1, 2, 3, 4}
	fits(t, rooms(0, 0, 0), 5, true, all...)
	fits(t, rooms(0, 0, 0), 3, true, all...)
	fits(t, rooms(0, 0, 0), 2, false, 0)
	fits(t, rooms(0, 0, 0), 1, false)
	fits(t, rooms(4, 0, 6), 1, true, all...)
	fits(t, rooms(4, 8, 6), 0, false)
	// Of trims alone: with its Commit, there are five of Log.
	fits(t, rooms(4, 0, 5), 1, false, 1, 2, 3, 4)
	fits(t, rooms(4, 0, 5), 2, true, all...)
	fits(t, rooms(4, 0, 4), 1, false, 2, 3, 4)
	// Of puts alone: the fourth one would take a zone.
	fits(t, rooms(3, 0, 6), 1, false, 0, 1, 2, 3)
	fits(t, rooms(3, 0, 6), 2, true, all...)
	fits(t, rooms(0, 8, 6), 1, false, 0)
	// What is in the midst may be the one that doesn't fit: two puts take a zone,
	// and two trims use the head of Log up.
	fits(t, rooms(1, 0, 3), 2, false, 0, 1, 3, 4)
	fits(t, rooms(2, 0, 3), 2, true, all...)
	fits(t, rooms(1, 0, 3), 3, true, all...)
	// The zone that four puts take, and that of the Commit alone.
	fits(t, rooms(3, 0, 0), 2, false, 0, 1, 2, 3)
	fits(t, rooms(3, 0, 0), 3, true, all...)
	fits(t, rooms(0, 0, 1), 3, true, all...)
	fits(t, rooms(0, 0, 1), 2, false, 0)
}

// P21.1: over all rooms of heads, and numbers of free zones: Fits holds just
// where each transaction of the most blocks is let in.
func TestFitsIsWhatIsLetIn(t *testing.T) {
	odd := api.Geom{Conv: 3, Soft: 9, Seq: 8, Size: 9, Open: 3}
	for _, g := range []api.Geom{small, odd} {
		seen := map[bool]int{}
		for hot := range g.Size + 1 {
			for log := range g.Size + 1 {
				for free := range 5 {
					d, c := empty(t, g, poolOf(t, g, rooms(hot, free%2*5, log), free))
					want := len(taken(t, d, c, g)) == g.Size/2+1
					if got := Fits(c, g); got != want {
						t.Fatalf("rooms %d %d, %d free: %v, want %v", hot, log, free, got, want)
					}
					seen[want]++
				}
			}
		}
		if seen[true] < 50 || seen[false] < 50 {
			t.Errorf("but %v were seen", seen)
		}
	}
}

// P21.1: Fits changes nothing, and sends nothing to the device: it is told also
// of one that is down.
func TestFitsDoesNothing(t *testing.T) {
	d, c := unlike(t)
	was, m, places, p := d.Clone(), c.Mast(), c.Places(), c.Pool()
	if !Fits(c, small) {
		t.Error("with four zones free not all fit")
	}
	sameDevice(t, d, was, small)
	d.Arm(0)
	if !Fits(c, small) {
		t.Error("down, it doesn't tell the same")
	}
	if c.Mast() != m || !slices.Equal(c.Places(), places) || !samePool(c.Pool(), p) {
		t.Error("something was done")
	}
}

// P21.1: of the greatest measure, whose transactions write 128 blocks, one zone
// under and over the edge, and one sector.
func TestFitsOfTheGreatest(t *testing.T) {
	g := api.Geom{Conv: 2, Soft: 500, Seq: 62, Size: 256, Open: 3}
	for _, x := range []struct {
		room [api.Streams]int
		free int
		want bool
	}{
		{rooms(0, 0, 0), 59, true},
		{rooms(0, 0, 0), 3, true},
		{rooms(0, 0, 0), 2, false},
		{rooms(128, 0, 130), 1, true},
		{rooms(127, 0, 130), 1, false},
		{rooms(128, 0, 129), 1, false},
	} {
		_, c := empty(t, g, poolOf(t, g, x.room, x.free))
		if got := Fits(c, g); got != x.want {
			t.Errorf("rooms %v, %d free: %v, want %v", x.room, x.free, got, x.want)
		}
	}
}
