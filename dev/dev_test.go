package dev

import (
	"math"
	"slices"
	"testing"

	"windrow/api"
	"windrow/zone"
)

// least is the smallest right measure; its sequential zones are 2 to 7.
func least() api.Geom { return api.Geom{Conv: 2, Soft: 4, Seq: 6, Size: 8, Open: 3} }

func measures() []api.Geom {
	return []api.Geom{
		least(),
		{Conv: 3, Soft: 12, Seq: 8, Size: 13, Open: 4},
		{Conv: 58, Soft: 9, Seq: 6, Size: 8, Open: 3},
		{Conv: 2, Soft: 5, Seq: 6, Size: 9, Open: math.MaxInt},
		{Conv: 2, Soft: 413, Seq: 62, Size: 256, Open: 61},
	}
}

func at(z, off int) api.At { return api.At{Zone: z, Off: off} }

// page answers a page of its own for each n from 0 on; none of its bytes is 0.
func page(n int) api.Page {
	var p api.Page
	for i := range p {
		p[i] = byte(1 + (n+i)%255)
	}
	p[0], p[1], p[2] = byte(1+n%250), byte(1+n/250%250), byte(1+n/250/250%250)
	return p
}

// part answers the first n bytes of p laid over q.
func part(p api.Page, n int, q api.Page) api.Page {
	for i := range n {
		q[i] = p[i]
	}
	return q
}

func must(t *testing.T, e api.Errno) {
	t.Helper()
	if e != api.OK {
		t.Fatal("refused: ", e)
	}
}

func expectPage(t *testing.T, d *Device, a api.At, want api.Page) {
	t.Helper()
	if p, e := d.Read(a); e != 0 || p != want {
		t.Errorf("Read of %v: %v %d, want %v", a, p, e, want)
	}
}

func expectZone(t *testing.T, d *Device, z int, want api.Zone) {
	t.Helper()
	if l := d.Zones(); l[z] != want {
		t.Errorf("zone %d: %v, want %v", z, l[z], want)
	}
}

// expectNothing fails, unless a sequential sector lies behind its pointer.
func expectNothing(t *testing.T, d *Device, a api.At) {
	t.Helper()
	if p, e := d.Read(a); e != api.ErrPlace || p != (api.Page{}) {
		t.Errorf("Read of %v: %v %d", a, p, e)
	}
}

// content is all that a device that is up tells.
type content struct {
	zones  []api.Zone
	pages  map[api.At]api.Page
	cached int
}

// look tells what all sectors that can be read are.
func look(t *testing.T, d *Device, g api.Geom) content {
	t.Helper()
	c := content{d.Zones(), map[api.At]api.Page{}, d.Cached()}
	for i, z := range c.zones {
		n := z.Point
		if z.State == api.Soft {
			n = g.Soft
		}
		for off := range n {
			p, e := d.Read(at(i, off))
			if e != 0 {
				t.Fatalf("Read of %d %d in %v: %d", i, off, z, e)
			}
			c.pages[at(i, off)] = p
		}
	}
	return c
}

func same(a, b content) bool {
	if !slices.Equal(a.zones, b.zones) || a.cached != b.cached || len(a.pages) != len(b.pages) {
		return false
	}
	for k, p := range a.pages {
		if q, ok := b.pages[k]; !ok || p != q {
			return false
		}
	}
	return true
}

// worked answers a device with each state of a zone: zones 2, 3 and 4 are Open,
// 5 is Closed, 6 was finished, 7 is Full; some sectors last, others are cached.
func worked(t *testing.T) *Device {
	t.Helper()
	d := New(least())
	must(t, d.Write(at(0, 1), page(1)))
	must(t, d.Write(at(5, 0), page(2)))
	must(t, d.Write(at(6, 0), page(3)))
	must(t, d.Finish(6))
	for off := range 8 {
		must(t, d.Write(at(7, off), page(10+off)))
	}
	must(t, d.Flush())
	d.Crash(api.Wreck{})
	must(t, d.Write(at(2, 0), page(4)))
	must(t, d.Flush())
	must(t, d.Write(at(0, 1), page(5)))
	must(t, d.Write(at(2, 1), page(6)))
	must(t, d.Write(at(3, 0), page(7)))
	must(t, d.Write(at(1, 3), page(8)))
	must(t, d.Write(at(4, 0), page(9)))
	open := api.Zone{State: api.Open, Point: 1}
	soft := api.Zone{State: api.Soft}
	want := []api.Zone{soft, soft, {State: api.Open, Point: 2}, open, open, {State: api.Closed, Point: 1}, {State: api.Full, Point: 1}, {State: api.Full, Point: 8}}
	if l := d.Zones(); !slices.Equal(l, want) || d.Cached() != 5 || d.Illegal() != 0 {
		t.Fatal(l, d.Cached(), d.Illegal())
	}
	return d
}

// P5.1: nothing was done to a new device; its conventional sectors are noughts.
func TestNew(t *testing.T) {
	for _, g := range measures() {
		d := New(g)
		if !slices.Equal(d.Zones(), zone.New(g)) || len(d.Zones()) != g.Conv+g.Seq || d.Cached() != 0 || d.Illegal() != 0 || d.Down() {
			t.Errorf("%+v: %v %d %d %v", g, d.Zones(), d.Cached(), d.Illegal(), d.Down())
		}
		for z := range g.Conv {
			expectPage(t, d, at(z, 0), api.Page{})
			expectPage(t, d, at(z, g.Soft-1), api.Page{})
		}
		for z := g.Conv; z < g.Conv+g.Seq; z++ {
			expectNothing(t, d, at(z, 0))
		}
		if d.Illegal() != g.Seq {
			t.Errorf("%+v: %d illegal", g, d.Illegal())
		}
	}
}

// P5.1: what a sector is when it was written, once or more, cached or not.
func TestReadTellsTheLastWrite(t *testing.T) {
	for _, g := range measures() {
		d, n := New(g), 0
		for round := range 4 {
			for z := range g.Conv {
				for off := range g.Soft {
					n++
					must(t, d.Write(at(z, off), page(n)))
					expectPage(t, d, at(z, off), page(n))
				}
			}
			z := g.Conv + round
			for off := range g.Size {
				must(t, d.Write(at(z, off), page(n+off)))
				expectPage(t, d, at(z, off), page(n+off))
			}
			expectZone(t, d, z, api.Zone{State: api.Full, Point: g.Size})
			if round%2 == 1 {
				must(t, d.Flush())
			}
			expectPage(t, d, at(z, 0), page(n))
			expectPage(t, d, at(g.Conv-1, g.Soft-1), page(n))
			expectPage(t, d, at(0, 0), page(n-g.Conv*g.Soft+1))
		}
	}
}

// P5.1: each write is cached, also one of the same sector.
func TestCached(t *testing.T) {
	d := New(least())
	for n := range 200 {
		must(t, d.Write(at(0, 2), page(n)))
		if d.Cached() != n+1 {
			t.Fatal(d.Cached(), " behind so many writes: ", n+1)
		}
	}
	must(t, d.Write(at(2, 0), page(1)))
	must(t, d.Write(at(3, 0), page(2)))
	must(t, d.Write(at(2, 1), page(3)))
	must(t, d.Reset(2))
	if d.Cached() != 201 {
		t.Error(d.Cached(), " behind a reset")
	}
	must(t, d.Finish(3))
	if d.Cached() != 200 {
		t.Error(d.Cached(), " behind a finish")
	}
	expectPage(t, d, at(0, 2), page(199))
	expectPage(t, d, at(3, 0), page(2))
	must(t, d.Flush())
	if d.Cached() != 0 {
		t.Error(d.Cached(), " behind a flush")
	}
	expectPage(t, d, at(0, 2), page(199))
	must(t, d.Flush())
	if d.Cached() != 0 {
		t.Error(d.Cached(), " behind two flushes")
	}
}

// P5.1: all that is cached lasts behind a flush, what is written later doesn't.
func TestFlush(t *testing.T) {
	d := worked(t)
	must(t, d.Flush())
	was := look(t, d, least())
	must(t, d.Write(at(0, 1), page(51)))
	must(t, d.Write(at(3, 1), page(52)))
	must(t, d.Write(at(1, 3), page(53)))
	d.Crash(api.Wreck{})
	for _, z := range []int{2, 3, 4} {
		was.zones[z].State = api.Closed
	}
	if !same(look(t, d, least()), was) {
		t.Error(d.Zones())
	}
}

// P5.1, P5.3: what is reset is gone at once, what lasted and what was cached;
// nothing of it shows when the zone is written anew.
func TestReset(t *testing.T) {
	d := New(least())
	for off := range 8 {
		must(t, d.Write(at(2, off), page(off)))
	}
	must(t, d.Write(at(3, 0), page(20)))
	must(t, d.Write(at(4, 0), page(30)))
	must(t, d.Flush())
	must(t, d.Write(at(3, 1), page(21)))
	must(t, d.Write(at(4, 1), page(31)))
	must(t, d.Write(at(3, 2), page(22)))
	must(t, d.Reset(2))
	must(t, d.Reset(3))
	must(t, d.Reset(5))
	for _, z := range []int{2, 3, 5} {
		expectZone(t, d, z, api.Zone{})
		expectNothing(t, d, at(z, 0))
	}
	if d.Cached() != 1 {
		t.Error(d.Cached())
	}
	c := d.Clone()
	c.Crash(api.Wreck{Keep: []int{9, 9, 9}})
	expectZone(t, c, 2, api.Zone{})
	expectZone(t, c, 3, api.Zone{})
	expectPage(t, c, at(4, 1), page(31))
	must(t, d.Write(at(2, 0), page(40)))
	must(t, d.Write(at(2, 1), page(41)))
	expectPage(t, d, at(2, 0), page(40))
	d.Crash(api.Wreck{Keep: []int{1}, Tear: 5})
	expectPage(t, d, at(2, 0), page(40))
	expectPage(t, d, at(2, 1), part(page(41), 5, api.Page{}))
	expectNothing(t, d, at(2, 2))
}

// P5.1: a reset is done for good, though nothing is flushed, and doesn't hang
// on what a crash keeps.
func TestResetLasts(t *testing.T) {
	for _, w := range []api.Wreck{{}, {Keep: []int{8, 8}, Soft: math.MaxUint64}, {Tear: 64}} {
		d := New(least())
		must(t, d.Write(at(2, 0), page(1)))
		must(t, d.Flush())
		must(t, d.Reset(2))
		d.Crash(w)
		expectZone(t, d, 2, api.Zone{})
		expectNothing(t, d, at(2, 0))
	}
}

// P5.1: a zone that is finished lasts alone; it is written no more.
func TestFinish(t *testing.T) {
	d := worked(t)
	must(t, d.Finish(2))
	must(t, d.Finish(5))
	expectZone(t, d, 2, api.Zone{State: api.Full, Point: 2})
	expectZone(t, d, 5, api.Zone{State: api.Full, Point: 1})
	if d.Cached() != 4 {
		t.Error(d.Cached())
	}
	expectPage(t, d, at(0, 1), page(5))
	expectPage(t, d, at(3, 0), page(7))
	if e := d.Write(at(2, 2), page(1)); e != api.ErrState {
		t.Error(e)
	}
	d.Crash(api.Wreck{})
	expectZone(t, d, 2, api.Zone{State: api.Full, Point: 2})
	expectPage(t, d, at(2, 0), page(4))
	expectPage(t, d, at(2, 1), page(6))
	expectZone(t, d, 3, api.Zone{})
	expectZone(t, d, 4, api.Zone{})
	expectPage(t, d, at(0, 1), page(1))
	expectPage(t, d, at(1, 3), api.Page{})
}

// P5.1: an empty zone is finished too, and stays so behind a crash.
func TestFinishOfAnEmptyZone(t *testing.T) {
	d := New(least())
	must(t, d.Finish(7))
	expectZone(t, d, 7, api.Zone{State: api.Full})
	expectNothing(t, d, at(7, 0))
	d.Crash(api.Wreck{Keep: []int{1, 1, 1, 1, 1, 1}, Tear: 9})
	expectZone(t, d, 7, api.Zone{State: api.Full})
	must(t, d.Reset(7))
	expectZone(t, d, 7, api.Zone{})
}

// ask is a command, or a Read.
type ask struct {
	name string
	do   func(d *Device) api.Errno
	want api.Errno
}

func writes(z, off int, want api.Errno) ask {
	return ask{"Write", func(d *Device) api.Errno { return d.Write(at(z, off), page(99)) }, want}
}

func reads(z, off int, want api.Errno) ask {
	return ask{"Read", func(d *Device) api.Errno {
		p, e := d.Read(at(z, off))
		if e != api.OK && p != (api.Page{}) {
			return -1
		}
		return e
	}, want}
}

func resets(z int, want api.Errno) ask {
	return ask{"Reset", func(d *Device) api.Errno { return d.Reset(z) }, want}
}

func finishes(z int, want api.Errno) ask {
	return ask{"Finish", func(d *Device) api.Errno { return d.Finish(z) }, want}
}

func flushes() ask {
	return ask{"Flush", func(d *Device) api.Errno { return d.Flush() }, api.OK}
}

// refused answers what the zones of worked refuse, with each error.
func refused() []ask {
	l := []ask{
		writes(2, 1, api.ErrPlace), writes(2, 3, api.ErrPlace), writes(5, 0, api.ErrPlace), writes(5, 7, api.ErrPlace),
		writes(5, 1, api.ErrOpen),
		writes(6, 1, api.ErrState), writes(6, 0, api.ErrState), writes(7, 7, api.ErrState),
		reads(2, 2, api.ErrPlace), reads(5, 1, api.ErrPlace), reads(6, 1, api.ErrPlace),
		resets(0, api.ErrState), resets(1, api.ErrState), finishes(0, api.ErrState), finishes(1, api.ErrState),
		finishes(6, api.ErrState), finishes(7, api.ErrState),
		writes(0, 4, api.ErrNone), writes(0, -1, api.ErrNone), writes(2, 8, api.ErrNone), writes(2, -1, api.ErrNone),
		reads(1, 4, api.ErrNone), reads(1, -1, api.ErrNone), reads(7, 8, api.ErrNone), reads(7, -1, api.ErrNone),
	}
	for _, z := range []int{-1, 8, 64, math.MinInt, math.MaxInt} {
		l = append(l, writes(z, 0, api.ErrNone), reads(z, 0, api.ErrNone), resets(z, api.ErrNone), finishes(z, api.ErrNone))
	}
	return l
}

// done answers what the zones of worked don't refuse, with no need of one
// another; all but the last are commands.
func done() []ask {
	return []ask{writes(0, 0, 0), writes(2, 2, 0), flushes(), finishes(3, 0), resets(7, 0), resets(6, 0), finishes(5, 0), writes(1, 3, 0), reads(0, 1, 0)}
}

// P5.1: chapter 4's error, of all four calls; nothing is done, and each refusal
// is counted, for ever.
func TestRefused(t *testing.T) {
	d := worked(t)
	was := look(t, d, least())
	for i, a := range refused() {
		if e := a.do(d); e != a.want {
			t.Errorf("%s, the %d.: %d, want %d", a.name, i, e, a.want)
		}
		if d.Illegal() != i+1 || !same(look(t, d, least()), was) || d.Down() {
			t.Fatalf("%s, the %d., did something: %d %v", a.name, i, d.Illegal(), d.Zones())
		}
	}
	for _, a := range done() {
		must(t, a.do(d))
	}
	n := len(refused())
	d.Crash(api.Wreck{})
	if d.Illegal() != n {
		t.Error(d.Illegal(), " illegal, want ", n)
	}
	expectNothing(t, d, at(3, 7))
	if c := d.Clone(); d.Illegal() != n+1 || c.Illegal() != n+1 {
		t.Error(d.Illegal(), c.Illegal(), n+1)
	}
}

// P5.1: a device that is down refuses all, whatever it is asked; none of it is
// illegal, and its zones are told as they were.
func TestDownRefusesAll(t *testing.T) {
	d := worked(t)
	was := look(t, d, least())
	expectNothing(t, d, at(2, 7))
	d.Arm(0)
	for i, a := range append(refused(), done()...) {
		if e := a.do(d); e != api.ErrDown {
			t.Errorf("%s, the %d.: %d", a.name, i, e)
		}
	}
	if d.Illegal() != 1 || d.Cached() != was.cached || !slices.Equal(d.Zones(), was.zones) || !d.Down() {
		t.Error(d.Illegal(), d.Cached(), d.Zones(), d.Down())
	}
	d.Crash(api.Wreck{Keep: []int{9, 9, 9}, Soft: 3})
	for _, z := range []int{2, 3, 4} {
		was.zones[z].State = api.Closed
	}
	was.cached = 0
	if !same(look(t, d, least()), was) || d.Down() {
		t.Error(d.Zones(), d.Down())
	}
}

// P5.2: so many commands of whatever kind are done, then it is down at once;
// what is refused doesn't count, and Reads don't.
func TestArm(t *testing.T) {
	commands := done()[:len(done())-1]
	for n := range len(commands) + 3 {
		d := worked(t)
		d.Arm(n)
		for i, a := range commands {
			if d.Down() != (i >= n) {
				t.Fatalf("armed by %d, behind %d commands: down %v", n, i, d.Down())
			}
			if !d.Down() {
				for _, no := range []ask{writes(2, 7, api.ErrPlace), reads(3, 7, api.ErrPlace), resets(0, api.ErrState), finishes(8, api.ErrNone), reads(0, 0, 0)} {
					if e := no.do(d); e != no.want {
						t.Fatalf("%s: %d", no.name, e)
					}
				}
			}
			want := api.OK
			if i >= n {
				want = api.ErrDown
			}
			if e := a.do(d); e != want {
				t.Errorf("armed by %d: %s, the %d.: %d", n, a.name, i, e)
			}
		}
		if d.Down() != (n <= len(commands)) {
			t.Errorf("armed by %d, behind all: down %v", n, d.Down())
		}
	}
}

// P5.2: the last command is done before the power goes.
func TestTheLastCommandIsDone(t *testing.T) {
	d := New(least())
	must(t, d.Write(at(2, 0), page(1)))
	d.Arm(1)
	must(t, d.Flush())
	if !d.Down() || d.Cached() != 0 {
		t.Error(d.Down(), d.Cached())
	}
	d.Crash(api.Wreck{})
	expectPage(t, d, at(2, 0), page(1))
	d.Arm(2)
	must(t, d.Write(at(2, 1), page(2)))
	must(t, d.Reset(2))
	d.Crash(api.Wreck{Keep: []int{9}})
	expectZone(t, d, 2, api.Zone{})
}

// P5.2: how Arm is asked more than once.
func TestArmAgain(t *testing.T) {
	for _, below := range []int{-1, -2, math.MinInt} {
		d := New(least())
		d.Arm(1)
		d.Arm(below)
		for range 100 {
			must(t, d.Flush())
		}
		d.Arm(below)
		must(t, d.Flush())
	}
	d := New(least())
	d.Arm(1)
	d.Arm(3)
	for range 3 {
		must(t, d.Flush())
	}
	if !d.Down() {
		t.Error("up behind as many as it was armed by last")
	}
	for _, n := range []int{-1, math.MinInt, 0, 1, 2, math.MaxInt} {
		d.Arm(n)
		if e := d.Flush(); e != api.ErrDown || !d.Down() {
			t.Error("armed while it is down: ", n, e)
		}
	}
	d.Crash(api.Wreck{})
	for range 100 {
		must(t, d.Flush())
	}
	d.Arm(math.MaxInt)
	must(t, d.Flush())
	d.Arm(0)
	if !d.Down() {
		t.Error("up, though armed by 0")
	}
}

// P5.3: behind a crash it isn't armed, whether it was down or not.
func TestCrashDisarms(t *testing.T) {
	for n := range 3 {
		d := New(least())
		d.Arm(n)
		d.Crash(api.Wreck{})
		for range 10 {
			must(t, d.Flush())
		}
		if d.Down() {
			t.Error("down, and was armed by ", n)
		}
	}
}

// P5.3: of a sequential zone as many sectors are left as Keep says, from the
// first one that is cached on.
func TestKeep(t *testing.T) {
	const flushed, all = 2, 6
	for _, c := range []struct {
		keep []int
		left [3]int
	}{
		{nil, [3]int{0, 0, 0}},
		{[]int{}, [3]int{0, 0, 0}},
		{[]int{1}, [3]int{1, 0, 0}},
		{[]int{0, 1}, [3]int{0, 1, 0}},
		{[]int{0, 0, 1}, [3]int{0, 0, 1}},
		{[]int{0, 0, 0, 1}, [3]int{0, 0, 0}},
		{[]int{3, 4}, [3]int{3, 4, 0}},
		{[]int{4, 3, 2}, [3]int{4, 3, 2}},
		{[]int{5, 4, 99, 8, 8, 8, 8, 8, 8, 8}, [3]int{4, 4, 4}},
		{[]int{-1, 2, -3}, [3]int{0, 2, 0}},
		{[]int{math.MaxInt, math.MinInt, 3}, [3]int{4, 0, 3}},
	} {
		d := New(least())
		for off := range all {
			for i := range 3 {
				must(t, d.Write(at(2+i, off), page(10*i+off)))
			}
			if off == flushed-1 {
				must(t, d.Flush())
			}
		}
		d.Crash(api.Wreck{Keep: c.keep})
		if d.Cached() != 0 {
			t.Error(c.keep, d.Cached(), " are cached")
		}
		for i, n := range c.left {
			expectZone(t, d, 2+i, api.Zone{State: api.Closed, Point: flushed + n})
			for off := range flushed + n {
				expectPage(t, d, at(2+i, off), page(10*i+off))
			}
			expectNothing(t, d, at(2+i, flushed+n))
		}
	}
}

// P5.3: what is left lasts: it is there behind another crash.
func TestWhatIsLeftLasts(t *testing.T) {
	d := worked(t)
	must(t, d.Write(at(4, 1), page(60)))
	d.Crash(api.Wreck{Keep: []int{1, 1, 1}, Soft: 1, Tear: 7})
	was := look(t, d, least())
	if p := was.pages[at(4, 1)]; p != part(page(60), 7, api.Page{}) || was.pages[at(0, 1)] != page(5) {
		t.Error(p)
	}
	d.Crash(api.Wreck{})
	if !same(look(t, d, least()), was) {
		t.Error(d.Zones())
	}
	must(t, d.Write(at(4, 2), page(61)))
	expectPage(t, d, at(4, 2), page(61))
}

// P5.3: Keep's first is the first sequential zone's, however many others there
// are.
func TestKeepOfOtherMeasures(t *testing.T) {
	for _, g := range measures() {
		for i := range g.Seq {
			d := New(g)
			for off := range 3 {
				must(t, d.Write(at(g.Conv+i, off), page(off)))
			}
			keep := make([]int, i+1)
			keep[i] = 2
			d.Crash(api.Wreck{Keep: keep})
			expectZone(t, d, g.Conv+i, api.Zone{State: api.Closed, Point: 2})
			expectPage(t, d, at(g.Conv+i, 1), page(1))
			d.Crash(api.Wreck{Keep: keep[:i]})
			expectZone(t, d, g.Conv+i, api.Zone{State: api.Closed, Point: 2})
		}
	}
}

// P5.3: of conventional sectors those are left whose bits are 1, in the order
// in which they were written, zone for zone and sector for sector mixed.
func TestSoft(t *testing.T) {
	order := []api.At{at(1, 3), at(0, 0), at(1, 0), at(0, 3), at(0, 0), at(1, 3)}
	for mask := range uint64(1) << len(order) {
		d, want := New(least()), map[api.At]api.Page{}
		must(t, d.Write(at(0, 0), page(90)))
		must(t, d.Write(at(1, 1), page(91)))
		must(t, d.Flush())
		want[at(0, 0)], want[at(1, 1)] = page(90), page(91)
		for i, a := range order {
			must(t, d.Write(a, page(i)))
			must(t, d.Write(at(2+i%2, i/2), page(50+i)))
			if mask>>i&1 == 1 {
				want[a] = page(i)
			}
		}
		d.Crash(api.Wreck{Soft: mask, Keep: []int{3, 3}})
		for z := range 2 {
			for off := range 4 {
				expectPage(t, d, at(z, off), want[at(z, off)])
			}
		}
	}
}

// P5.3: the bit of a sector behind 64 others is that of the first one.
func TestSoftComesAgain(t *testing.T) {
	g := api.Geom{Conv: 2, Soft: 100, Seq: 6, Size: 8, Open: 3}
	for _, mask := range []uint64{0, 1, 1 << 63, 0x8000000000000001, 0xf0f0f0f012345679, math.MaxUint64} {
		d := New(g)
		for i := range 200 {
			must(t, d.Write(at(i%2, i/2), page(i)))
		}
		d.Crash(api.Wreck{Soft: mask})
		for i := range 200 {
			var want api.Page
			if mask>>(i%64)&1 == 1 {
				want = page(i)
			}
			expectPage(t, d, at(i%2, i/2), want)
		}
	}
}

// P5.3: what a reset, a finish or a flush has taken from the cache has no bit,
// and isn't counted by Keep.
func TestWhatCountsInACrash(t *testing.T) {
	d := New(least())
	must(t, d.Write(at(0, 0), page(1)))
	must(t, d.Flush())
	must(t, d.Write(at(0, 1), page(2)))
	must(t, d.Write(at(2, 0), page(3)))
	must(t, d.Write(at(3, 0), page(4)))
	must(t, d.Write(at(0, 2), page(5)))
	must(t, d.Reset(2))
	must(t, d.Write(at(2, 0), page(6)))
	must(t, d.Write(at(2, 1), page(7)))
	must(t, d.Finish(3))
	d.Crash(api.Wreck{Keep: []int{1}, Soft: 2})
	expectPage(t, d, at(0, 0), page(1))
	expectPage(t, d, at(0, 1), api.Page{})
	expectPage(t, d, at(0, 2), page(5))
	expectPage(t, d, at(2, 0), page(6))
	expectZone(t, d, 2, api.Zone{State: api.Closed, Point: 1})
	expectZone(t, d, 3, api.Zone{State: api.Full, Point: 1})
}

// P5.3: how many bytes are laid of a sequential sector, if all ahead of it are
// left; the zone has it then.
func TestTearSequential(t *testing.T) {
	for _, tear := range []int{math.MinInt, -1, 0, 1, 2, 31, 63, 64, 65, 1000, math.MaxInt} {
		for keep := -1; keep <= 4; keep++ {
			d := New(least())
			must(t, d.Write(at(3, 0), page(0)))
			must(t, d.Flush())
			must(t, d.Write(at(2, 0), page(8)))
			must(t, d.Write(at(0, 0), page(9)))
			for off := 1; off <= 3; off++ {
				must(t, d.Write(at(3, off), page(off)))
			}
			d.Crash(api.Wreck{Keep: []int{0, keep}, Tear: tear})
			n, torn := 1+min(max(keep, 0), 3), keep == 2 && tear > 0
			for off := range n {
				expectPage(t, d, at(3, off), page(off))
			}
			if torn {
				n++
				expectPage(t, d, at(3, 3), part(page(3), min(tear, 64), api.Page{}))
			}
			expectZone(t, d, 3, api.Zone{State: api.Closed, Point: n})
			expectNothing(t, d, at(3, n))
			expectZone(t, d, 2, api.Zone{})
			expectPage(t, d, at(0, 0), api.Page{})
		}
	}
}

// P5.3: a zone's first sector is torn too; Keep may be too short, or below 0.
func TestTearOfTheFirstSector(t *testing.T) {
	for _, keep := range [][]int{nil, {}, {5}, {5, 0}, {5, -1}, {0, math.MinInt, 7}} {
		d := New(least())
		must(t, d.Write(at(3, 0), page(1)))
		d.Crash(api.Wreck{Keep: keep, Tear: 10})
		expectZone(t, d, 3, api.Zone{State: api.Closed, Point: 1})
		expectPage(t, d, at(3, 0), part(page(1), 10, api.Page{}))
	}
}

// P5.3: a conventional sector that isn't left is torn over what is there, which
// may have lasted, or been left by this crash.
func TestTearSoft(t *testing.T) {
	for _, tear := range []int{math.MinInt, -1, 0, 1, 33, 63, 64, 65, math.MaxInt} {
		for mask := range uint64(8) {
			for first := range 2 {
				d, there := New(least()), api.Page{}
				if first == 1 {
					there = page(1)
					must(t, d.Write(at(1, 2), there))
					must(t, d.Flush())
				}
				must(t, d.Write(at(1, 2), page(2)))
				must(t, d.Write(at(0, 2), page(3)))
				must(t, d.Write(at(2, 0), page(4)))
				must(t, d.Write(at(1, 2), page(5)))
				d.Crash(api.Wreck{Soft: mask, Tear: tear})
				if mask&1 == 1 {
					there = page(2)
				}
				if mask>>2&1 == 1 {
					there = page(5)
				} else {
					there = part(page(5), min(max(tear, 0), 64), there)
				}
				expectPage(t, d, at(1, 2), there)
				var other api.Page
				if mask>>1&1 == 1 {
					other = page(3)
				}
				expectPage(t, d, at(0, 2), other)
				expectZone(t, d, 2, api.Zone{})
				expectZone(t, d, 1, api.Zone{State: api.Soft})
			}
		}
	}
}

// P5.3: the last sector that is cached is torn, wherever commands behind its
// write have taken others from the cache.
func TestTheLastCachedOneIsTorn(t *testing.T) {
	d := New(least())
	must(t, d.Write(at(2, 0), page(1)))
	must(t, d.Write(at(3, 0), page(2)))
	must(t, d.Write(at(0, 0), page(3)))
	must(t, d.Write(at(4, 0), page(4)))
	must(t, d.Flush())
	must(t, d.Write(at(2, 1), page(6)))
	must(t, d.Write(at(3, 1), page(7)))
	must(t, d.Write(at(4, 1), page(8)))
	must(t, d.Finish(4))
	c := d.Clone()
	c.Crash(api.Wreck{Tear: 4})
	expectZone(t, c, 2, api.Zone{State: api.Closed, Point: 1})
	expectPage(t, c, at(3, 1), part(page(7), 4, api.Page{}))
	must(t, d.Reset(3))
	c = d.Clone()
	c.Crash(api.Wreck{Tear: 4})
	expectPage(t, c, at(2, 1), part(page(6), 4, api.Page{}))
	expectZone(t, c, 3, api.Zone{})
	must(t, d.Flush())
	d.Crash(api.Wreck{Tear: 4})
	expectPage(t, d, at(2, 1), page(6))
	expectPage(t, d, at(4, 1), page(8))
	expectPage(t, d, at(0, 0), page(3))
	expectZone(t, d, 2, api.Zone{State: api.Closed, Point: 2})
}

// P5.3: a zone that was Full stays so, unless sectors of it are lost; a torn
// one isn't.
func TestCrashOfAFullZone(t *testing.T) {
	for flushed := range 9 {
		for keep := range 9 {
			for _, tear := range []int{0, 9, 64} {
				d := New(least())
				for off := range 8 {
					if off == flushed {
						must(t, d.Flush())
					}
					must(t, d.Write(at(2, off), page(off)))
				}
				if flushed == 8 {
					must(t, d.Flush())
				}
				expectZone(t, d, 2, api.Zone{State: api.Full, Point: 8})
				d.Crash(api.Wreck{Keep: []int{keep}, Tear: tear})
				want := api.Zone{State: api.Closed, Point: min(flushed+keep, 8)}
				if tear > 0 && want.Point == 7 {
					want.Point = 8
					expectPage(t, d, at(2, 7), part(page(7), tear, api.Page{}))
				}
				switch want.Point {
				case 0:
					want.State = api.Empty
				case 8:
					want.State = api.Full
				}
				expectZone(t, d, 2, want)
				for off := range min(flushed+keep, 8) {
					expectPage(t, d, at(2, off), page(off))
				}
			}
		}
	}
}

// P5.3: as many zones are Full as there are, all of them cached: all of them
// lose sectors, though not as many may be open.
func TestCrashOfManyFullZones(t *testing.T) {
	for _, g := range measures() {
		d := New(g)
		for z := g.Conv; z < g.Conv+g.Seq; z++ {
			for off := range g.Size {
				must(t, d.Write(at(z, off), page(z+off)))
			}
		}
		keep := make([]int, g.Seq)
		for i := range keep {
			keep[i] = i % g.Size
		}
		keep[g.Seq-1] = g.Size - 1
		d.Crash(api.Wreck{Keep: keep, Tear: 20})
		l := d.Zones()
		for i := range g.Seq - 1 {
			want := api.Zone{State: api.Closed, Point: i % g.Size}
			if want.Point == 0 {
				want.State = api.Empty
			}
			if l[g.Conv+i] != want {
				t.Errorf("%+v: %v, want %v", g, l[g.Conv+i], want)
			}
		}
		if z := l[len(l)-1]; z != (api.Zone{State: api.Full, Point: g.Size}) || !zone.Right(g, l) {
			t.Errorf("%+v: %v", g, z)
		}
	}
}

// P5.3: as many zones may be open behind a crash as ever.
func TestOpenBehindACrash(t *testing.T) {
	d := worked(t)
	if e := d.Write(at(5, 1), page(1)); e != api.ErrOpen {
		t.Error(e)
	}
	d.Crash(api.Wreck{})
	must(t, d.Write(at(5, 1), page(2)))
	must(t, d.Write(at(2, 1), page(3)))
	must(t, d.Write(at(3, 0), page(4)))
	if e := d.Write(at(4, 0), page(5)); e != api.ErrOpen {
		t.Error(e)
	}
}

// P5.3: a clone goes its own way, from the same beginning: zones, what lasts,
// what is cached and in which order, power, arms, refusals.
func TestClone(t *testing.T) {
	d := worked(t)
	expectNothing(t, d, at(2, 7))
	d.Arm(3)
	was := look(t, d, least())
	c := d.Clone()
	if !same(look(t, c, least()), was) || c.Illegal() != 1 || c.Down() {
		t.Fatal(c.Zones(), c.Illegal(), c.Down())
	}
	must(t, c.Write(at(0, 1), page(70)))
	must(t, c.Reset(2))
	expectNothing(t, c, at(2, 0))
	must(t, c.Flush())
	if !c.Down() || d.Down() || d.Illegal() != 1 || c.Illegal() != 2 || !same(look(t, d, least()), was) {
		t.Error(c.Down(), d.Down(), d.Illegal(), c.Illegal(), d.Zones())
	}
	if e := c.Clone().Flush(); e != api.ErrDown || !c.Clone().Down() {
		t.Error("a clone of a device that is down: ", e)
	}
	c = d.Clone()
	must(t, d.Write(at(1, 0), page(71)))
	must(t, d.Write(at(2, 2), page(72)))
	must(t, d.Flush())
	if !d.Down() || c.Down() || !same(look(t, c, least()), was) {
		t.Error(d.Down(), c.Down(), c.Zones())
	}
	d.Crash(api.Wreck{})
	c.Crash(api.Wreck{Keep: []int{1}, Soft: 2, Tear: 3})
	expectPage(t, d, at(2, 2), page(72))
	expectPage(t, c, at(2, 1), page(6))
	expectPage(t, c, at(0, 1), page(1))
	expectPage(t, c, at(1, 3), page(8))
	expectPage(t, c, at(1, 0), api.Page{})
	expectPage(t, c, at(4, 0), part(page(9), 3, api.Page{}))
}

// P5.3: two clones of one device don't write into one another's cache.
func TestClonesCacheAlone(t *testing.T) {
	d := New(least())
	for n := range 9 {
		must(t, d.Write(at(0, 0), page(n)))
		a, b := d.Clone(), d.Clone()
		must(t, a.Write(at(1, 1), page(100)))
		must(t, b.Write(at(1, 2), page(101)))
		must(t, d.Write(at(0, 3), page(102)))
		expectPage(t, a, at(1, 1), page(100))
		expectPage(t, a, at(1, 2), api.Page{})
		expectPage(t, b, at(1, 2), page(101))
		expectPage(t, b, at(1, 1), api.Page{})
		all := api.Wreck{Soft: math.MaxUint64}
		a.Crash(all)
		b.Crash(all)
		expectPage(t, a, at(1, 1), page(100))
		expectPage(t, b, at(1, 2), page(101))
		expectPage(t, d, at(0, 3), page(102))
		expectPage(t, a, at(0, 0), page(n))
	}
}

// P5.5: no list that is handed in is changed or kept, nor what lies behind it.
func TestKeepStays(t *testing.T) {
	d := worked(t)
	all := []int{1, 1, -5, 7, 8, 9}
	w := api.Wreck{Keep: all[:3], Soft: 3, Tear: 5}
	d.Crash(w)
	if !slices.Equal(all, []int{1, 1, -5, 7, 8, 9}) || len(w.Keep) != 3 || w.Soft != 3 || w.Tear != 5 {
		t.Error(all, w)
	}
	was := look(t, d, least())
	clear(all)
	if !same(look(t, d, least()), was) {
		t.Error("what was handed in is kept")
	}
}

// P5.5: what is answered is new: a change of it isn't seen in the device, and
// the device's go unseen in it.
func TestAnswersAreNew(t *testing.T) {
	d := worked(t)
	was := look(t, d, least())
	l := d.Zones()
	for i := range l {
		l[i] = api.Zone{State: 99, Point: 99}
	}
	_ = append(l, api.Zone{State: 99})
	p, _ := d.Read(at(2, 0))
	p[0]++
	if !same(look(t, d, least()), was) {
		t.Error("a change of an answer is seen")
	}
	for _, change := range []func(){
		func() { must(t, d.Write(at(2, 2), page(1))) },
		func() { must(t, d.Finish(3)) },
		func() { must(t, d.Reset(7)) },
		func() { d.Crash(api.Wreck{}) },
	} {
		l := d.Zones()
		m := slices.Clone(l)
		change()
		if !slices.Equal(l, m) {
			t.Error("the device's change is seen in an answer: ", l)
		}
	}
}

// P5.5: a page is a value: a later change of the one that was written is unseen.
func TestPagesAreValues(t *testing.T) {
	d, p := New(least()), page(1)
	must(t, d.Write(at(2, 0), p))
	must(t, d.Write(at(0, 0), p))
	p[0]++
	expectPage(t, d, at(2, 0), page(1))
	must(t, d.Flush())
	p[1]++
	expectPage(t, d, at(0, 0), page(1))
}

// The chapter's example.
func TestExample(t *testing.T) {
	d := New(least())
	must(t, d.Write(at(2, 0), page(1)))
	must(t, d.Flush())
	must(t, d.Write(at(2, 1), page(2)))
	d.Crash(api.Wreck{})
	if p, e := d.Read(at(2, 1)); e != 4 || p != (api.Page{}) {
		t.Error(p, e)
	}
	expectPage(t, d, at(2, 0), page(1))
}

// The language's rule 4: no call panics, also of devices of measures that
// aren't right: they have no zones.
func TestWrongMeasuresEndWithoutPanic(t *testing.T) {
	far := []int{math.MinInt, -64, -1, 0, 1, 2, 6, 8, 64, 1 << 20, math.MaxInt}
	for _, a := range far {
		for _, b := range far {
			for _, g := range []api.Geom{{Conv: a, Soft: b, Seq: b, Size: a, Open: b}, {Conv: 2, Soft: 8, Seq: a, Size: b, Open: 3}, {Conv: 2, Soft: a, Seq: 6, Size: 8, Open: b}} {
				d := New(g)
				for _, c := range append(refused(), done()...) {
					c.do(d)
				}
				d.Zones()
				d.Arm(a)
				d.Crash(api.Wreck{Keep: []int{a, b}, Soft: 5, Tear: b})
				d.Clone().Crash(api.Wreck{Tear: 1})
			}
		}
	}
}
