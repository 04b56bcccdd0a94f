package core

import (
	"slices"
	"testing"

	"windrow/api"
	"windrow/dev"
	"windrow/geom"
	"windrow/pool"
	"windrow/table"
)

// chance answers numbers that follow no simple pattern, the same in each run.
type chance uint64

func (c *chance) below(n int) int {
	*c = *c*6364136223846793005 + 1442695040888963407
	return int(uint64(*c) >> 32 % uint64(n))
}

// writes makes up writes, mostly such as can be committed.
func (c *chance) writes(g api.Geom) []api.Write {
	var l []api.Write
	n := c.below(g.Size/2 + 1)
	if c.below(20) == 0 {
		n = g.Size/2 + 1
	}
	for block := range geom.Blocks(g) {
		if c.below(geom.Blocks(g)-block) < n-len(l) {
			l = append(l, c.write(block))
		}
	}
	if len(l) > 0 && c.below(20) == 0 {
		l[c.below(len(l))].Block = c.below(geom.Blocks(g)+3) - 1
	}
	return l
}

// write makes up a write of a block; a Trim may have data too, that count for
// nothing.
func (c *chance) write(block int) api.Write {
	return api.Write{
		Block: block,
		Trim:  c.below(4) == 0,
		Data:  api.Data{byte(c.below(256)), byte(c.below(256)), 31: byte(c.below(256))},
	}
}

// pair is a core, and the words that should tell the same, each with a device.
type pair struct {
	g api.Geom
	d *dev.Device
	c *Core
	p *plain
}

// pairOf answers a core of a device on which nothing was written.
func pairOf(t *testing.T, g api.Geom, m api.Mast) *pair {
	t.Helper()
	m.Pages = geom.Pages(g)
	k := &pair{g: g, d: dev.New(g), p: plainOf(g, m)}
	k.c = coreOf(t, k.d, g, m, table.New(geom.Blocks(g)))
	return k
}

// coreOf answers a core with the pool of its device's zones.
func coreOf(t *testing.T, d *dev.Device, g api.Geom, m api.Mast, u *table.Table) *Core {
	t.Helper()
	p, ok := pool.Open(g, d.Zones())
	if !ok {
		t.Fatal("too many zones are begun")
	}
	return New(d, g, m, u, p)
}

// again makes a new core of what the old one tells.
func (k *pair) again(t *testing.T) {
	t.Helper()
	u := table.New(geom.Blocks(k.g))
	for block, place := range k.c.Places() {
		u.Set(block, place)
	}
	k.c = coreOf(t, k.d, k.g, k.c.Mast(), u)
	k.p.again()
}

// do does one thing on both sides, that hangs on chance, and holds that they
// answer the same error, which it answers.
func (k *pair) do(t *testing.T, c *chance) api.Errno {
	t.Helper()
	var e, want api.Errno
	what := c.below(20)
	switch {
	case what < 12:
		l := c.writes(k.g)
		e, want = k.c.Commit(slices.Clone(l)), k.p.commit(l)
	case what < 15:
		zone := k.zone(c)
		e, want = k.c.Move(zone), k.p.move(zone)
	case what < 18:
		e, want = k.c.Checkpoint(), k.p.checkpoint()
	case what < 19:
		e, want = k.c.Flush(), k.p.d.Flush()
	case !k.d.Down() && c.below(3) == 0:
		k.again(t)
	}
	if e != want {
		t.Fatalf("thing %d: %d, want %d", what, e, want)
	}
	return e
}

// zone chooses a zone to move: mostly the one of which the least is live, at
// times any one, or none at all.
func (k *pair) zone(c *chance) int {
	if c.below(4) == 0 {
		return c.below(k.g.Conv+k.g.Seq+2) - 1
	}
	best, live := 0, k.g.Size
	for _, x := range k.c.Cands() {
		if x.Live < live {
			best, live = x.Zone, x.Live
		}
	}
	return best
}

// same holds that the core tells what the words do.
func (k *pair) same(t *testing.T) {
	t.Helper()
	if m := k.c.Mast(); m != k.p.m {
		t.Fatalf("Mast: %v, want %v", m, k.p.m)
	}
	if l, want := k.c.Cands(), k.p.cands(); !slices.Equal(l, want) {
		t.Fatalf("Cands: %v, want %v", l, want)
	}
	p := k.c.Pool()
	if !slices.Equal(p.Points, k.p.used[k.g.Conv:]) || p.Heads != k.p.heads {
		t.Fatalf("Pool: %v, want %v %v", p, k.p.used[k.g.Conv:], k.p.heads)
	}
	places := k.c.Places()
	for block, a := range k.p.places {
		if places[block] != k.p.number(a) {
			t.Fatalf("block %d at %d, want %v", block, places[block], a)
		}
	}
	for zone := -1; zone <= k.g.Conv+k.g.Seq; zone++ {
		if n := k.c.Live(zone); n != k.p.live(zone) {
			t.Fatalf("zone %d: %d live, want %d", zone, n, k.p.live(zone))
		}
	}
	for block, want := range k.p.blocks() {
		if o, e := k.c.Read(block); e != api.OK || o != want {
			t.Fatalf("Read: %v %d, want %v", o, e, want)
		}
	}
}

// right holds that the core is right, by the chapter's words.
func (k *pair) right(t *testing.T) {
	t.Helper()
	zones, p, places := k.d.Zones(), k.c.Pool(), map[api.At]bool{}
	for i, used := range p.Points {
		z := zones[k.g.Conv+i]
		if full := z.State == api.Full; full != (used == k.g.Size) || !full && used != z.Point {
			t.Fatalf("%d are used of the zone %v", used, z)
		}
	}
	if !pool.Right(k.g, p) {
		t.Fatalf("the pool isn't right: %v", p)
	}
	for block, place := range k.c.Places() {
		a, ok := geom.At(k.g, place)
		if place == 0 {
			continue
		}
		if !ok || places[a] {
			t.Fatalf("block %d stands at %d", block, place)
		}
		places[a] = true
		putOf(t, k.d, a, block)
	}
}

// least has the least of all kinds; odd has zones whose half isn't whole; wide
// has three pages, and as many open zones as there are.
var (
	least = api.Geom{Conv: 2, Soft: 4, Seq: 6, Size: 8, Open: 3}
	odd   = api.Geom{Conv: 3, Soft: 9, Seq: 8, Size: 9, Open: 3}
	wide  = api.Geom{Conv: 2, Soft: 12, Seq: 9, Size: 13, Open: 9}
)

// P19.1 to P19.4: whatever is done, a core answers, and sends to its device,
// what the words say.
func TestWalks(t *testing.T) {
	for i, g := range []api.Geom{least, small, odd, wide} {
		for seed := range 40 {
			c := chance(1000*i + seed)
			k := pairOf(t, g, api.Mast{Gen: 1 + c.below(3), Epoch: 1 + c.below(3), Seq: c.below(9)})
			k.same(t)
			for range 150 {
				if e := k.do(t, &c); e == api.ErrDown {
					t.Fatal("the device is down")
				}
				k.same(t)
				k.right(t)
				sameDevice(t, k.d, k.p.d, g)
			}
		}
	}
}

// P19.2, P19.3: near the greatest number, Seq and Gen are counted up to it, and
// not beyond it.
func TestWalksToTheLastNumber(t *testing.T) {
	for seed := range 40 {
		c := chance(seed)
		m := api.Mast{Gen: api.MaxNum - c.below(10), Epoch: api.MaxNum, Seq: api.MaxNum - c.below(100)}
		if seed%2 == 0 {
			m.Gen = 1
		}
		k := pairOf(t, least, m)
		for range 200 {
			k.do(t, &c)
			k.same(t)
		}
		sameDevice(t, k.d, k.p.d, least)
		last := k.c.Mast()
		if seed%2 == 1 && last.Gen != api.MaxNum || seed%2 == 0 && last.Seq < api.MaxNum-1 {
			t.Fatalf("seed %d: the numbers aren't used: %v", seed, last)
		}
	}
}

// P19.1 to P19.3: the device goes down behind whichever command, and a crash
// leaves what it leaves of both: each command is the one that the words say.
func TestWalksDown(t *testing.T) {
	for i, g := range []api.Geom{least, small, odd} {
		for armed := range 200 {
			c := chance(1000*i + armed/7)
			k := pairOf(t, g, api.Mast{Gen: 1, Epoch: 1})
			k.d.Arm(armed)
			k.p.d.Arm(armed)
			for k.do(t, &c) != api.ErrDown {
			}
			w := api.Wreck{Keep: slices.Repeat([]int{armed % 3}, g.Seq), Soft: uint64(armed), Tear: armed % 70}
			k.d.Crash(w)
			k.p.d.Crash(w)
			sameDevice(t, k.d, k.p.d, g)
		}
	}
}
