package ckpt

import (
	"math"
	"slices"
	"testing"

	"windrow/api"
	"windrow/dev"
)

// held is a checkpoint: a head, and where the blocks stand.
type held struct {
	m      api.Mast
	places []int
}

// standing answers the checkpoint of a Gen; which places there are hangs on n.
func standing(g api.Geom, gen, n int) held { return held{head(g, gen), some(g, n)} }

// put holds that a checkpoint is written.
func (h held) put(t *testing.T, d *dev.Device, g api.Geom) {
	t.Helper()
	write(t, d, g, h.m, h.places)
}

// laid tells whether a checkpoint's region holds its sectors, and no other one.
func (h held) laid(d *dev.Device, g api.Geom) bool {
	a := startOf(h.m.Gen)
	for i, want := range regionOf(h.m, h.places) {
		if p, e := d.Read(api.At{Zone: a.Zone, Off: a.Off + i}); e != api.OK || p != want {
			return false
		}
	}
	return true
}

// histories answers devices on which old is the newest checkpoint: what stands
// in the other region is nothing, an older one, a spoilt one, a beginning of
// next, or what else a crash left of it.
func histories(t *testing.T, g api.Geom, old, next held) []*dev.Device {
	t.Helper()
	bare := dev.New(g)
	old.put(t, bare, g)
	older := dev.New(g)
	if gen := old.m.Gen - 1; gen > 0 {
		standing(g, gen, 5).put(t, older, g)
	}
	old.put(t, older, g)
	spoilt := littered(t, g)
	old.put(t, spoilt, g)
	l := []*dev.Device{bare, older, spoilt}
	for _, soft := range []uint64{0b1, 0b10, 0b101, 0b110, math.MaxUint64} {
		d := older.Clone()
		cut(t, d, g, next, commands(g)-2, api.Wreck{Soft: soft})
		l = append(l, d)
	}
	for _, d := range l {
		picked(t, "history", d, g, old.m, old.places)
	}
	return l
}

// cut writes a checkpoint on a device that goes down behind n commands, and
// crashes; it tells whether the checkpoint was written.
func cut(t *testing.T, d *dev.Device, g api.Geom, h held, n int, w api.Wreck) bool {
	t.Helper()
	d.Arm(n)
	e := Write(d, g, h.m, tableWith(h.places))
	if e != api.OK && e != api.ErrDown {
		t.Fatalf("Write: %d", e)
	}
	d.Crash(w)
	return e == api.OK
}

// oneOf holds that behind a crash the new checkpoint is told just where all its
// sectors are there, and else the old one; was: it was written. It answers
// whether the new one is.
func oneOf(t *testing.T, d *dev.Device, g api.Geom, old, next held, was bool) bool {
	t.Helper()
	all := next.laid(d, g)
	switch {
	case all:
		picked(t, "this one", d, g, next.m, next.places)
	case was:
		t.Fatalf("%v was written, and isn't there", next.m)
	case old.m.Gen == 0:
		refused(t, "none", d, g, api.ErrFormat)
	default:
		picked(t, "that one", d, g, old.m, old.places)
	}
	unharmed(t, d)
	return all
}

// tears are numbers of a torn sector's bytes: the edges of its fields.
func tears() []int {
	return []int{math.MinInt, -1, 0, 1, 2, 8, 9, 10, 12, 13, 17, 25, 29, 33, 52, 53, 59, 60, 61, 62, 63, 64, 65, math.MaxInt}
}

// P13.3: behind a Write, and a crash at each command, that leaves any of its
// sectors, and tears the last one, Pick tells that checkpoint, or this one.
func TestEachCrashOfASmallDevice(t *testing.T) {
	for _, g := range []api.Geom{least, two, three} {
		for _, gen := range []int{1, 2, 9, api.MaxNum - 2, api.MaxNum - 1} {
			old, next := standing(g, gen, 1), standing(g, gen+1, 2)
			for _, base := range histories(t, g, old, next) {
				each(t, base, g, old, next)
			}
		}
	}
}

// each holds that of all crashes of a Write of next on a device.
func each(t *testing.T, base *dev.Device, g api.Geom, old, next held) {
	t.Helper()
	for n := range commands(g) + 2 {
		down := base.Clone()
		down.Arm(n)
		e := Write(down, g, next.m, tableWith(next.places))
		if (e == api.OK) != (n >= commands(g)) {
			t.Fatalf("%d commands: %d", n, e)
		}
		for soft := range uint64(1) << down.Cached() {
			for _, tear := range tears() {
				d := down.Clone()
				d.Crash(api.Wreck{Soft: soft, Tear: tear})
				oneOf(t, d, g, old, next, e == api.OK)
			}
		}
	}
}

// P13.3: so behind the first Write of all: none is whole, or this one.
func TestEachCrashOfTheFirstOne(t *testing.T) {
	for _, g := range []api.Geom{least, two, three} {
		for _, gen := range []int{1, 2} {
			next := standing(g, gen, 2)
			each(t, dev.New(g), g, held{}, next)
			each(t, littered(t, g), g, held{}, next)
		}
	}
}

// P13.3: which sectors are left begins anew behind 64 of them: of a great
// region crashes leave the same of each 64.
func TestCrashesOfAGreatDevice(t *testing.T) {
	g := greatMeasure
	for _, gen := range []int{2, 3} {
		old, next := standing(g, gen, 1), standing(g, gen+1, 2)
		base := dev.New(g)
		standing(g, gen-1, 5).put(t, base, g)
		old.put(t, base, g)
		greatCrashes(t, base, g, old, next)
	}
}

// greatCrashes holds what a few crashes leave of next on a great device.
func greatCrashes(t *testing.T, base *dev.Device, g api.Geom, old, next held) {
	t.Helper()
	last := commands(g)
	for _, n := range []int{0, 1, 2, 3, 64, 65, 66, 67, last - 3, last - 2, last - 1, last} {
		for _, soft := range []uint64{0, 1, 1 << 63, 1<<63 - 1, math.MaxUint64 - 1, math.MaxUint64 - 1<<27, math.MaxUint64} {
			for _, tear := range []int{0, 32, 64} {
				d := base.Clone()
				was := cut(t, d, g, next, n, api.Wreck{Soft: soft, Tear: tear})
				new := oneOf(t, d, g, old, next, was)
				if whole := n == last || n == last-1 && soft == math.MaxUint64; whole && !new {
					t.Fatalf("%d commands, %x: %v", n, soft, new)
				}
			}
		}
	}
}

// P13.3: a crash keeps of the log what the first Flush let last, and of the
// regions what a Write ahead did: what is cached elsewhere changes nothing.
func TestCrashWithMoreCached(t *testing.T) {
	g := three
	old, next := standing(g, 3, 1), standing(g, 4, 2)
	for _, base := range histories(t, g, old, next) {
		for z := range g.Conv {
			off := pagesOf(g) + 2
			if z == 0 {
				off = 0
			}
			must(t, base.Write(api.At{Zone: z, Off: off}, api.Page{5}))
		}
		for off := range 3 {
			must(t, base.Write(api.At{Zone: g.Conv, Off: off}, api.Page{6}))
		}
		for n := range commands(g) + 1 {
			for soft := range uint64(1) << 9 {
				d := base.Clone()
				was := cut(t, d, g, next, n, api.Wreck{Soft: soft, Keep: []int{int(soft & 3)}, Tear: 31})
				oneOf(t, d, g, old, next, was)
				if point := d.Zones()[g.Conv].Point; n > 0 && point != 3 {
					t.Fatalf("%d commands: the log lasts up to %d", n, point)
				}
			}
		}
	}
}

// wreck answers by chance what a crash leaves; not seldom all, or all but one.
func (c *chance) wreck() api.Wreck {
	w := api.Wreck{Tear: c.below(70) - 3, Keep: []int{c.below(4)}}
	switch c.below(4) {
	case 0:
		w.Soft = math.MaxUint64
	case 1:
		w.Soft = math.MaxUint64 - 1<<c.below(8)
	default:
		w.Soft = uint64(c.below(1 << 30))
	}
	return w
}

// P13.3: on walks of Writes, each of them tried again till it is told, Pick tells
// that one or this one behind each crash. It is tried again as it was, because
// what crashes leave of unlike ones of one Gen may make a whole region together:
// every leaf's sector ends in its own sum, so that the foot's Sum hangs on how
// many leaves there are alone.
func TestWalkOfCrashes(t *testing.T) {
	for seed, g := range []api.Geom{least, two, three} {
		c := chance(7 + seed)
		d := dev.New(g)
		old, next := held{}, standing(g, 1, 1)
		crashed, tries := 0, 0
		for next.m.Gen < 1500 {
			n := c.below(commands(g) + 2)
			if c.below(3) == 0 {
				n = commands(g) - 1
			}
			was := cut(t, d, g, next, n, c.wreck())
			tries++
			if !oneOf(t, d, g, old, next, was) {
				continue
			}
			if !was {
				crashed++
			}
			old, next = next, followed(g, next, &c)
		}
		if crashed < 50 || tries < 2000 {
			t.Errorf("%v: %d tries, %d told of those that a crash cut off", g, tries, crashed)
		}
	}
}

// followed answers a checkpoint that may follow: its Gen is one more, and of
// its blocks some stand elsewhere.
func followed(g api.Geom, h held, c *chance) held {
	places := slices.Clone(h.places)
	for range c.below(4) {
		places[c.below(len(places))] = c.below(1 << 20)
	}
	m := h.m
	m.Gen++
	m.Epoch += c.below(2)
	m.Seq += c.below(3)
	return held{m, places}
}
