package dev

import (
	"math"
	"slices"
	"testing"

	"windrow/api"
	"windrow/zone"
)

// chance tells numbers that look like chance, the same ones each time.
type chance uint32

func (c *chance) below(n int) int {
	*c = *c*1664525 + 1013904223
	return int(*c>>8) % n
}

// wreck makes up what a crash leaves: Keep is at times too short, or long.
func (c *chance) wreck(g api.Geom) api.Wreck {
	w := api.Wreck{Soft: uint64(c.below(1<<20))<<44 ^ uint64(c.below(1<<20))<<22 ^ uint64(c.below(1<<20)), Tear: c.below(90) - 10}
	for range c.below(g.Seq + 3) {
		w.Keep = append(w.Keep, c.below(g.Size+3)-1)
	}
	if c.below(4) == 0 {
		w.Keep = slices.Repeat([]int{math.MaxInt}, g.Seq)
	}
	return w
}

// plain is a device told by its zones: what each one reads as, and how it was
// when it lasted; the pointers tell what is cached of a sequential one.
type plain struct {
	g       api.Geom
	zones   []api.Zone
	now     map[int][]api.Page
	sure    map[int][]api.Page
	order   []written
	down    bool
	left    int // -1: it isn't armed
	illegal int
}

func newPlain(g api.Geom) *plain {
	m := &plain{g: g, zones: zone.New(g), now: map[int][]api.Page{}, sure: map[int][]api.Page{}, left: -1}
	for z := range g.Conv {
		m.now[z], m.sure[z] = make([]api.Page, g.Soft), make([]api.Page, g.Soft)
	}
	return m
}

// take tells whether a command isn't refused, and counts it.
func (m *plain) take(l []api.Zone, e api.Errno) api.Errno {
	if m.down {
		return api.ErrDown
	}
	if e != 0 {
		m.illegal++
		return e
	}
	m.zones = l
	m.left = max(m.left-1, -1)
	m.down = m.left == 0
	return 0
}

func (m *plain) write(a api.At, p api.Page) api.Errno {
	e := m.take(zone.Write(m.g, m.zones, a))
	if e != 0 {
		return e
	}
	m.order = append(m.order, written{a, p})
	if a.Zone < m.g.Conv {
		m.now[a.Zone][a.Off] = p
	} else {
		m.now[a.Zone] = append(m.now[a.Zone], p)
	}
	return 0
}

func (m *plain) drop(z int) {
	m.order = slices.DeleteFunc(m.order, func(c written) bool { return c.at.Zone == z })
}

func (m *plain) reset(z int) api.Errno {
	e := m.take(zone.Reset(m.g, m.zones, z))
	if e == 0 {
		m.drop(z)
		m.now[z], m.sure[z] = nil, nil
	}
	return e
}

func (m *plain) finish(z int) api.Errno {
	e := m.take(zone.Finish(m.g, m.zones, z))
	if e == 0 {
		m.drop(z)
		m.sure[z] = slices.Clone(m.now[z])
	}
	return e
}

func (m *plain) flush() api.Errno {
	e := m.take(m.zones, 0)
	if e == 0 {
		m.order = nil
		for z, l := range m.now {
			m.sure[z] = slices.Clone(l)
		}
	}
	return e
}

func (m *plain) arm(n int) {
	if m.down {
		return
	}
	m.left = max(n, -1)
	m.down = n == 0
}

// crash counts what is left of each zone by the pointers alone.
func (m *plain) crash(w api.Wreck) {
	tear := min(max(w.Tear, 0), api.Sector)
	softs, torn := 0, false
	for _, c := range m.order {
		if c.at.Zone < m.g.Conv {
			torn = w.Soft&(1<<(softs%64)) == 0
			softs++
			if !torn {
				m.sure[c.at.Zone][c.at.Off] = c.page
			}
		}
	}
	last := -1
	if n := len(m.order); n > 0 {
		c := m.order[n-1]
		last = c.at.Zone
		if last < m.g.Conv && torn {
			m.sure[last][c.at.Off] = part(c.page, tear, m.sure[last][c.at.Off])
		}
	}
	for z := m.g.Conv; z < m.g.Conv+m.g.Seq; z++ {
		keep, cached := 0, len(m.now[z])-len(m.sure[z])
		if z-m.g.Conv < len(w.Keep) {
			keep = min(max(w.Keep[z-m.g.Conv], 0), cached)
		}
		n := len(m.sure[z]) + keep
		m.sure[z] = slices.Clone(m.now[z][:n])
		if z == last && keep == cached-1 && tear > 0 {
			m.sure[z] = append(m.sure[z], part(m.now[z][n], tear, api.Page{}))
			n++
		}
		was := m.zones[z]
		m.zones[z].Point = n
		if was.State == api.Open || was.State == api.Full && n < was.Point {
			m.zones[z].State = api.Closed
			if n == 0 {
				m.zones[z].State = api.Empty
			}
		}
	}
	for z, l := range m.sure {
		m.now[z] = slices.Clone(l)
	}
	m.order, m.down, m.left = nil, false, -1
}

func (m *plain) read(a api.At) (api.Page, api.Errno) {
	if m.down {
		return api.Page{}, api.ErrDown
	}
	if e := zone.Read(m.g, m.zones, a); e != 0 {
		m.illegal++
		return api.Page{}, e
	}
	return m.now[a.Zone][a.Off], 0
}

// step does one thing to both, and tells by which name and whether they
// answered the same, no error.
func step(t *testing.T, c *chance, g api.Geom, d *Device, m *plain, n int) (string, bool) {
	t.Helper()
	z := g.Conv + c.below(4)
	if c.below(5) == 0 {
		z = c.below(g.Conv+g.Seq+1) - c.below(2)
	}
	off := c.below(g.Soft + 1)
	if z >= g.Conv && z < g.Conv+g.Seq && c.below(8) > 0 {
		off = m.zones[z].Point
	}
	name, e, want := "", api.Errno(0), api.Errno(0)
	switch k := c.below(100); {
	case k < 55:
		name, e, want = "Write", d.Write(at(z, off), page(n)), m.write(at(z, off), page(n))
	case k < 75:
		off -= c.below(3)
		p, readE := d.Read(at(z, off))
		q, wantE := m.read(at(z, off))
		if p != q {
			t.Fatalf("Read of %d %d: %v, want %v", z, off, p, q)
		}
		name, e, want = "Read", readE, wantE
	case k < 82:
		name, e, want = "Reset", d.Reset(z), m.reset(z)
	case k < 86:
		name, e, want = "Finish", d.Finish(z), m.finish(z)
	case k < 92:
		name, e, want = "Flush", d.Flush(), m.flush()
	case k < 95:
		arm := c.below(60) - 2
		name = "Arm"
		d.Arm(arm)
		m.arm(arm)
	default:
		w := c.wreck(g)
		name = "Crash"
		d.Crash(w)
		m.crash(w)
	}
	if e != want {
		t.Fatalf("%s of %d %d: %d, want %d", name, z, off, e, want)
	}
	return name, e == 0
}

// P5.1, P5.2, P5.3: on a long walk a device is what a plain one is, in all that
// it tells; and so is a clone of it.
func TestWalk(t *testing.T) {
	for _, g := range measures()[:4] {
		d, m, c := New(g), newPlain(g), chance(g.Size)
		did := map[string]int{}
		for n := range 20000 {
			name, ok := step(t, &c, g, d, m, n)
			if ok {
				did[name]++
			}
			if c.below(20) == 0 {
				d = d.Clone()
			}
			if l := d.Zones(); !slices.Equal(l, m.zones) || !zone.Right(g, l) || d.Cached() != len(m.order) || d.Illegal() != m.illegal || d.Down() != m.down {
				t.Fatalf("%+v: behind %s: %v %d %d %v, want %v %d %d %v", g, name, l, d.Cached(), d.Illegal(), d.Down(), m.zones, len(m.order), m.illegal, m.down)
			}
			if d.Down() || name != "Crash" && n%4 > 0 {
				continue
			}
			for a, p := range look(t, d, g).pages {
				if p != m.now[a.Zone][a.Off] {
					t.Fatalf("%+v: behind %s: %v is %v, want %v", g, name, a, p, m.now[a.Zone][a.Off])
				}
			}
		}
		if len(did) != 7 || did["Write"] < 1000 || did["Reset"] < 100 || did["Finish"] < 20 || did["Crash"] < 500 {
			t.Errorf("%+v: the walk did too little: %v", g, did)
		}
	}
}

// hold fails, unless of each sequential zone all that was flushed is there, and
// of its later sectors a beginning, the last one of which may be torn.
func hold(t *testing.T, g api.Geom, flushed, all, got content) {
	t.Helper()
	for z := g.Conv; z < g.Conv+g.Seq; z++ {
		n := got.zones[z].Point
		if n < flushed.zones[z].Point || n > all.zones[z].Point {
			t.Fatalf("zone %d: %d sectors, of %d flushed and %d in all", z, n, flushed.zones[z].Point, all.zones[z].Point)
		}
		for off := range n {
			p, q := got.pages[at(z, off)], all.pages[at(z, off)]
			if p != q && !(off == n-1 && off >= flushed.zones[z].Point && isTorn(p, q)) {
				t.Fatalf("%d %d: %v, was %v", z, off, p, q)
			}
		}
	}
}

// isTorn tells whether p is a beginning of q, noughts behind it.
func isTorn(p, q api.Page) bool {
	for n := range api.Sector {
		if p == part(q, n, api.Page{}) {
			return n > 0
		}
	}
	return false
}

// P5.4: what was flushed is there behind whatever crash, down or not; of a
// zone's later sectors a beginning is, but perhaps for one that is torn; no
// conventional sector that wasn't written since is another.
func TestFlushedOutlivesEachCrash(t *testing.T) {
	g, c := least(), chance(7)
	torn := 0
	for round := range 300 {
		d := New(g)
		for n := range c.below(25) {
			z := g.Conv + c.below(3)
			_ = d.Write(at(z, d.Zones()[z].Point), page(round+n))
			must(t, d.Write(at(c.below(2), c.below(4)), page(200+n)))
		}
		must(t, d.Flush())
		flushed := look(t, d, g)
		since := map[api.At]bool{}
		for n := range c.below(25) {
			z, a := g.Conv+c.below(3), at(c.below(2), c.below(4))
			_ = d.Write(at(z, d.Zones()[z].Point), page(300+n))
			if c.below(3) == 0 {
				must(t, d.Write(a, page(400+n)))
				since[a] = true
			}
		}
		all := look(t, d, g)
		for range 20 {
			b, w := d.Clone(), c.wreck(g)
			if c.below(2) == 0 {
				b.Arm(0)
			}
			b.Crash(w)
			got := look(t, b, g)
			hold(t, g, flushed, all, got)
			for a, p := range flushed.pages {
				if a.Zone < g.Conv && !since[a] && got.pages[a] != p {
					t.Fatalf("%v: %v, was %v, and wasn't written since", a, got.pages[a], p)
				}
			}
			for a, p := range got.pages {
				if a.Zone >= g.Conv && p != all.pages[a] {
					torn++
				}
			}
		}
	}
	if torn < 100 {
		t.Error("too few were torn: ", torn)
	}
}
