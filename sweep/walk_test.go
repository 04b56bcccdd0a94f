package sweep

import (
	"slices"
	"testing"

	"windrow/api"
	"windrow/core"
	"windrow/dev"
	"windrow/geom"
	"windrow/lane"
	"windrow/mount"
	"windrow/pool"
	"windrow/table"
)

// chance answers numbers that follow no simple pattern, the same in each run.
type chance uint64

func (c *chance) below(n int) int {
	*c = *c*6364136223846793005 + 1442695040888963407
	return int(uint64(*c) >> 32 % uint64(n))
}

// writes makes up the writes of a transaction.
func (c *chance) writes(g api.Geom) []api.Write {
	var l []api.Write
	n := 1 + c.below(geom.Most(g))
	for block := range geom.Blocks(g) {
		if c.below(geom.Blocks(g)-block) < n-len(l) {
			w := put(block, byte(c.below(256)))
			w.Trim = c.below(6) == 0
			l = append(l, w)
		}
	}
	return l
}

// least has the least of all kinds; odd has zones whose half isn't whole; wide
// has pages and open zones more than a few; long has many zones.
var (
	least = api.Geom{Conv: 2, Soft: 4, Seq: 6, Size: 8, Open: 3}
	odd   = api.Geom{Conv: 3, Soft: 9, Seq: 8, Size: 9, Open: 3}
	wide  = api.Geom{Conv: 2, Soft: 12, Seq: 9, Size: 13, Open: 9}
	long  = api.Geom{Conv: 2, Soft: 16, Seq: 30, Size: 8, Open: 3}
)

// words tells which zone a step chooses, by the words of chapter 16; false, if
// none may be.
func words(l []api.Cand, size, policy int) (int, bool) {
	may := slices.DeleteFunc(slices.Clone(l), func(x api.Cand) bool { return x.Live == size })
	for _, a := range may {
		best := true
		for _, b := range may {
			best = best && !better(b, a, size, policy)
		}
		if best {
			return a.Zone, true
		}
	}
	return 0, false
}

// better tells whether a is better than b, by these words.
func better(a, b api.Cand, size, policy int) bool {
	mine, other := b.Live, a.Live
	if policy == api.Benefit {
		mine = (size - a.Live) * (a.Age + 1) * (size + b.Live)
		other = (size - b.Live) * (b.Age + 1) * (size + a.Live)
	}
	return mine > other || mine == other && a.Zone < b.Zone
}

// pair is a core to which steps are done, and one to which their words are, each
// with a device.
type pair struct {
	g    api.Geom
	d, w *dev.Device
	c, p *core.Core
	now  []api.Old // what the blocks are
}

// pairOf answers two devices that are formatted and mounted.
func pairOf(t *testing.T, g api.Geom) *pair {
	t.Helper()
	k := &pair{g: g}
	k.d, k.c = begun(t, g)
	k.w, k.p = begun(t, g)
	k.now = blocksOf(t, k.c, g)
	return k
}

// commit commits the same to both.
func (k *pair) commit(t *testing.T, l []api.Write) api.Errno {
	t.Helper()
	e := k.c.Commit(l)
	do(t, "Commit", k.p.Commit(l), e)
	if e == api.OK {
		for _, w := range l {
			k.now[w.Block] = api.Old{Block: w.Block, Has: !w.Trim, Data: w.Data}
			if w.Trim {
				k.now[w.Block].Data = api.Data{}
			}
		}
	}
	return e
}

// step does a step to the one, and its words to the other, and answers whether
// there was one to do. It is never refused, changes no block, and as many zones
// stay free as must.
func (k *pair) step(t *testing.T, policy int) bool {
	t.Helper()
	zone, ok := words(k.p.Cands(), k.g.Size, policy)
	if ok {
		do(t, "Move", k.p.Move(zone), api.OK)
		do(t, "Checkpoint", k.p.Checkpoint(), api.OK)
	}
	steps(t, k.c, k.g, policy, zone, api.OK)
	sameDevice(t, k.d, k.w, k.g)
	if k.c.Mast() != k.p.Mast() || !samePool(k.c.Pool(), k.p.Pool()) {
		t.Fatalf("%v %v, want %v %v", k.c.Mast(), k.c.Pool(), k.p.Mast(), k.p.Pool())
	}
	if !slices.Equal(k.c.Places(), k.p.Places()) || !slices.Equal(blocksOf(t, k.c, k.g), k.now) {
		t.Fatal("the blocks are other ones, or stand at other places")
	}
	if free, keep := spare(k.c, k.g); free < keep {
		t.Fatalf("%d zones are free, %d must stay so", free, keep)
	}
	return ok
}

// spare tells how many zones are free, and how many must stay so.
func spare(c *core.Core, g api.Geom) (int, int) {
	return len(pool.Free(g, c.Pool())), lane.Keep(g, c.Pool())
}

// again crashes both devices, when all is flushed, and mounts them.
func (k *pair) again(t *testing.T) {
	t.Helper()
	do(t, "Flush", k.c.Flush(), api.OK)
	do(t, "Flush", k.p.Flush(), api.OK)
	k.d.Crash(api.Wreck{})
	k.w.Crash(api.Wreck{})
	k.c, k.p = mounted(t, k.d, k.g), mounted(t, k.w, k.g)
}

// P21.1, P21.2: on long walks of commits, of steps by both policies and of
// Mounts, each step is what the words say; it is never refused; blocks stay, and
// as many zones stay free as must.
func TestWalks(t *testing.T) {
	for i, g := range []api.Geom{least, small, odd, wide, long} {
		refused, chosen := 0, 0
		for seed := range 25 {
			c := chance(1000*i + seed)
			k := pairOf(t, g)
			for range 250 {
				e := api.OK
				switch c.below(20) {
				case 0:
					k.again(t)
				case 1:
					e = api.ErrRoom
				default:
					e = k.commit(t, c.writes(g))
				}
				if e != api.ErrRoom {
					continue
				}
				refused++
				if k.step(t, c.below(2)) {
					chosen++
				}
			}
		}
		if refused < 300 || chosen < 200 {
			t.Errorf("%v: %d commits were refused, but %d zones were chosen", g, refused, chosen)
		}
	}
}

// P21.2: behind as many steps by Greedy as suffice, of a core that is as full as
// it may be, Fits holds: whatever transaction is let in. So on, again and again.
func TestStepsSuffice(t *testing.T) {
	for i, g := range []api.Geom{least, small, odd, wide, long} {
		for seed := range 6 {
			c := chance(1000*i + seed)
			k := pairOf(t, g)
			for range 5 {
				for k.commit(t, c.writes(g)) != api.ErrRoom {
				}
				if Fits(k.c, g) {
					t.Fatal("though one is refused, all fit")
				}
				for range Steps(g) {
					k.step(t, api.Greedy)
				}
				all(t, k.d, k.c, g)
			}
		}
	}
}

// all holds that Fits holds, and that each transaction of the most blocks is let
// in, and leaves room for the cleaner.
func all(t *testing.T, d *dev.Device, c *core.Core, g api.Geom) {
	t.Helper()
	if !Fits(c, g) {
		t.Fatalf("not all fit: %v", c.Pool())
	}
	if l := taken(t, d, c, g); len(l) != geom.Most(g)+1 {
		t.Fatalf("but transactions of %v puts are let in: %v", l, c.Pool())
	}
}

// P21.2: a device all of whose blocks are written, and that are written anew one
// by one, takes as many of them as there are, when steps are done where there is
// no room; so it does where but a few blocks are written over and over.
func TestGoesOn(t *testing.T) {
	for _, g := range []api.Geom{least, small, odd, wide} {
		for _, hot := range []int{1, 3, geom.Blocks(g)} {
			k := pairOf(t, g)
			for block := range geom.Blocks(g) {
				k.goOn(t, block, 1, api.Greedy)
			}
			for i := range 400 {
				k.goOn(t, i*7%hot, byte(i), i%2)
			}
			if k.d.Illegal() != 0 {
				t.Fatalf("%d commands were illegal", k.d.Illegal())
			}
		}
	}
}

// goOn commits a block, behind as many steps as it takes, the first ones by the
// policy.
func (k *pair) goOn(t *testing.T, block int, x byte, policy int) {
	t.Helper()
	l := []api.Write{put(block, x)}
	for n := 0; k.commit(t, l) == api.ErrRoom; n++ {
		if n > Steps(k.g)+3 {
			t.Fatalf("no room behind %d steps", n)
		}
		if n > 3 {
			policy = api.Greedy
		}
		k.step(t, policy)
	}
}

// pool makes up a right pool, of which few zones are free, and whose heads are
// in whatever order.
func (c *chance) pool(g api.Geom) api.Pool {
	p := api.Pool{Points: slices.Repeat([]int{g.Size}, g.Seq)}
	order := make([]int, g.Seq)
	for i := range order {
		j := c.below(i + 1)
		order[i], order[j] = order[j], i
	}
	for stream := range p.Heads {
		if c.below(4) > 0 {
			i := order[stream]
			p.Heads[stream] = g.Conv + i
			p.Points[i] = []int{c.below(2), g.Size - 1 - c.below(2), c.below(g.Size)}[c.below(3)]
		}
	}
	for _, i := range order[api.Streams:][:1+c.below(3)] {
		p.Points[i] = 0
	}
	return p
}

// table makes up where some blocks stand, of the sectors that are used.
func (c *chance) table(g api.Geom, p api.Pool) *table.Table {
	var used []int
	for i, point := range p.Points {
		for off := range point {
			used = append(used, geom.Num(g, api.At{Zone: g.Conv + i, Off: off}))
		}
	}
	u := table.New(geom.Blocks(g))
	most := c.below(8)
	for block := range geom.Blocks(g) {
		if len(used) == 0 || c.below(8) > most {
			continue
		}
		i := c.below(1 + c.below(len(used)))
		u.Set(block, used[i])
		used = slices.Delete(used, i, i+1)
	}
	return u
}

// P21.2: so it is of right cores that are made up, whatever their pools are, and
// wherever their blocks stand. But where a step uses up a head of Log in which
// blocks stand, that zone can't be reset as others of Log are, and there may be a
// zone too few behind it: no core that comes of a Mount has such a head.
func TestMadeUpCores(t *testing.T) {
	for i, g := range []api.Geom{least, small, odd, wide} {
		made := 0
		for seed := range 1500 {
			c := chance(10000*i + seed)
			p := c.pool(g)
			m := api.Mast{Gen: 1 + c.below(5), Epoch: 1 + c.below(5), Seq: c.below(1000), Pages: geom.Pages(g)}
			d, k := coreOf(t, g, m, c.table(g, p), p)
			if free, keep := spare(k, g); free < keep {
				continue
			}
			made++
			cleaned(t, d, k, g, c.below(2))
		}
		if made < 500 {
			t.Errorf("%v: but %d cores were made up", g, made)
		}
	}
}

// cleaned does a step by a policy, and then as many by Greedy as suffice.
func cleaned(t *testing.T, d *dev.Device, c *core.Core, g api.Geom, policy int) {
	t.Helper()
	blocks := blocksOf(t, c, g)
	for range 1 + Steps(g) {
		logs := c.Pool().Heads[api.Log]
		if _, e := Step(c, g, policy); e != api.OK {
			t.Fatalf("Step: %d, of %v", e, c.Pool())
		}
		if !slices.Equal(blocksOf(t, c, g), blocks) {
			t.Fatal("the blocks are other ones")
		}
		usedUp := logs != 0 && c.Pool().Heads[api.Log] != logs
		if free, keep := spare(c, g); free < keep && !(usedUp && c.Live(logs) > 0) {
			t.Fatalf("%d zones are free, %d must stay so: %v", free, keep, c.Pool())
		}
		policy = api.Greedy
	}
	all(t, d, c, g)
	if d.Illegal() != 0 {
		t.Fatal("a command was illegal")
	}
}

// P21.2: the greatest device there is, filled up, is clean behind as many steps
// as suffice.
func TestTheGreatest(t *testing.T) {
	g := api.Geom{Conv: 2, Soft: 500, Seq: 62, Size: 256, Open: 3}
	d, c := begun(t, g)
	for i := 0; ; i++ {
		var l []api.Write
		for n := range geom.Most(g) {
			l = append(l, put((i*37%32)*geom.Most(g)+n, byte(i)))
		}
		if i > 32 {
			l = slices.DeleteFunc(l, func(w api.Write) bool { return (w.Block+i)%3 > 0 })
		}
		if e := c.Commit(l); e != api.OK {
			do(t, "Commit", e, api.ErrRoom)
			break
		}
	}
	blocks := blocksOf(t, c, g)
	for range Steps(g) {
		if _, e := Step(c, g, api.Greedy); e != api.OK {
			t.Fatal(e)
		}
		if free, keep := spare(c, g); free < keep {
			t.Fatalf("%d zones are free, %d must stay so", free, keep)
		}
	}
	if !Fits(c, g) || !slices.Equal(blocksOf(t, c, g), blocks) || d.Illegal() != 0 {
		t.Error("not all fit, or the blocks are other ones, or a command was illegal")
	}
}

// P21.2: a step changes no block, also when the power goes within it: behind a
// crash at whichever command, whatever it leaves, the blocks are what they were.
func TestCrashesWithinAStep(t *testing.T) {
	for _, policy := range both {
		for armed := range 13 {
			for soft := range uint64(32) {
				d, c := unlike(t)
				do(t, "Flush", c.Flush(), api.OK)
				blocks := blocksOf(t, c, small)
				d.Arm(armed)
				Step(c, small, policy)
				d.Crash(api.Wreck{Keep: slices.Repeat([]int{int(soft) % 4}, 8), Soft: soft, Tear: int(soft) * 2})
				c, e := mount.Mount(d, small)
				do(t, "Mount", e, api.OK)
				if !slices.Equal(blocksOf(t, c, small), blocks) {
					t.Fatalf("armed by %d, left %d: the blocks are other ones", armed, soft)
				}
			}
		}
	}
}
