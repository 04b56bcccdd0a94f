package pool

import (
	"math"
	"slices"
	"testing"

	"windrow/api"
	"windrow/zone"
)

// chance answers numbers that follow no simple pattern, the same in each run.
type chance uint64

func (c *chance) below(n int) int {
	*c = *c*6364136223846793005 + 1442695040888963407
	return int(uint64(*c) >> 32 % uint64(n))
}

// small is a right measure with the least zones: 2 to 7 are sequential.
var small = api.Geom{Conv: 2, Soft: 8, Seq: 6, Size: 8, Open: 3}

// measures are right measures, with the least and the most of all kinds.
func measures() []api.Geom {
	return []api.Geom{
		small,
		{Conv: 2, Soft: 8, Seq: 6, Size: 9, Open: 3},
		{Conv: 5, Soft: 40, Seq: 7, Size: 16, Open: 9},
		{Conv: 58, Soft: 1 << 16, Seq: 6, Size: 8, Open: 3},
		{Conv: 2, Soft: 500, Seq: 62, Size: api.MaxSize, Open: 3},
	}
}

// wrongZones are numbers that are no sequential zone's.
func wrongZones(g api.Geom) []int {
	n := g.Conv + g.Seq
	return []int{0, 1, g.Conv - 1, n, n + 1, 2 * n, -1, -g.Conv, -n, 1 << 32, math.MaxInt, math.MinInt}
}

// same tells whether two pools are one in what they say.
func same(p, q api.Pool) bool {
	return slices.Equal(p.Points, q.Points) && p.Heads == q.Heads
}

// heads writes a stream's heads short.
func heads(hot, cold, log int) [api.Streams]int {
	return [api.Streams]int{api.Hot: hot, api.Cold: cold, api.Log: log}
}

// unused answers the pool of a device to which nothing was done.
func unused(t *testing.T, g api.Geom) api.Pool {
	t.Helper()
	p, ok := Open(g, zone.New(g))
	if !ok || !same(p, api.Pool{Points: make([]int, g.Seq)}) {
		t.Fatalf("Open of unused zones: %v %v", p, ok)
	}
	return p
}

// step holds that the stream's next place is that one, and answers the pool
// then.
func step(t *testing.T, g api.Geom, p api.Pool, stream int, want api.At) api.Pool {
	t.Helper()
	a, q, ok := Step(g, p, stream)
	if !ok || a != want {
		t.Fatalf("Step(%v, %d): %v %v, want %v", p, stream, a, ok, want)
	}
	if !Right(g, q) {
		t.Fatalf("Step(%v, %d): %v isn't right", p, stream, q)
	}
	return q
}

// P11.2: the chapter's example.
func TestExample(t *testing.T) {
	for _, g := range measures() {
		p := unused(t, g)
		p = step(t, g, p, api.Log, api.At{Zone: g.Conv, Off: 0})
		p = step(t, g, p, api.Log, api.At{Zone: g.Conv, Off: 1})
		p = step(t, g, p, api.Hot, api.At{Zone: g.Conv + 1, Off: 0})
		if p.Heads != heads(g.Conv+1, 0, g.Conv) || p.Points[0] != 2 || p.Points[1] != 1 {
			t.Errorf("the pool then: %v", p)
		}
	}
}

// P11.1: of each kind of zone what of it is used; those that are begun are the
// heads of the streams in order.
func TestOpen(t *testing.T) {
	empty := api.Zone{State: api.Empty}
	at := func(state, point int) api.Zone { return api.Zone{State: state, Point: point} }
	for _, c := range []struct {
		l      []api.Zone
		points []int
		heads  [api.Streams]int
	}{
		{[]api.Zone{empty, empty, empty, empty, empty, empty}, []int{0, 0, 0, 0, 0, 0}, heads(0, 0, 0)},
		{[]api.Zone{at(api.Open, 0), empty, at(api.Open, 0), empty, empty, at(api.Open, 0)}, []int{0, 0, 0, 0, 0, 0}, heads(0, 0, 0)},
		{[]api.Zone{at(api.Full, 8), at(api.Full, 0), at(api.Full, 3), at(api.Full, 7), at(api.Full, 1), at(api.Full, 8)}, []int{8, 8, 8, 8, 8, 8}, heads(0, 0, 0)},
		{[]api.Zone{empty, empty, empty, empty, empty, at(api.Closed, 1)}, []int{0, 0, 0, 0, 0, 1}, heads(7, 0, 0)},
		{[]api.Zone{at(api.Open, 7), empty, empty, empty, empty, at(api.Closed, 1)}, []int{7, 0, 0, 0, 0, 1}, heads(2, 7, 0)},
		{[]api.Zone{at(api.Full, 8), at(api.Closed, 7), at(api.Open, 0), at(api.Open, 4), at(api.Full, 4), at(api.Open, 1)}, []int{8, 7, 0, 4, 8, 1}, heads(3, 5, 7)},
		{[]api.Zone{at(api.Closed, 3), at(api.Closed, 3), at(api.Closed, 3), empty, at(api.Open, 0), at(api.Full, 0)}, []int{3, 3, 3, 0, 0, 8}, heads(2, 3, 4)},
	} {
		l := append(zone.New(small)[:2], c.l...)
		if !zone.Right(small, l) {
			t.Fatalf("%v isn't right", l)
		}
		p, ok := Open(small, l)
		if !ok || !same(p, api.Pool{Points: c.points, Heads: c.heads}) {
			t.Errorf("Open(%v): %v %v, want %v %v", l, p, ok, c.points, c.heads)
		}
		if !Right(small, p) {
			t.Errorf("Open(%v): %v isn't right", l, p)
		}
	}
}

// P11.1: with more than three zones that are begun there is no pool; those
// that are unused, or used up, don't count.
func TestOpenTooManyBegun(t *testing.T) {
	for _, g := range measures() {
		for begun := range g.Seq + 1 {
			l := zone.New(g)
			for i := range g.Seq {
				l[g.Conv+i] = api.Zone{State: api.Full, Point: 1}
			}
			for i := range begun {
				l[g.Conv+g.Seq-1-i] = api.Zone{State: api.Closed, Point: 1 + i%(g.Size-1)}
			}
			p, ok := Open(g, l)
			if ok != (begun <= 3) || ok && !Right(g, p) || !ok && !same(p, api.Pool{}) {
				t.Errorf("Open with %d zones begun: %v %v", begun, p, ok)
			}
		}
	}
}

// P11.1: any right zones, held against what the words say of each alone.
func TestOpenWalk(t *testing.T) {
	c := chance(111)
	oks, rounds := 0, 3000
	for round := range rounds {
		g := measures()[round%len(measures())]
		l, want, begun := zone.New(g), api.Pool{Points: make([]int, g.Seq)}, []int{}
		parts := 1 + c.below(g.Seq)
		for i := range g.Seq {
			z := api.Zone{State: api.Full, Point: c.below(g.Size + 1)}
			if c.below(parts) == 0 {
				z = api.Zone{State: api.Closed, Point: 1 + c.below(g.Size-1)}
			} else if c.below(2) == 0 {
				z = api.Zone{}
			}
			l[g.Conv+i] = z
			switch z.State {
			case api.Full:
				want.Points[i] = g.Size
			case api.Closed:
				want.Points[i] = z.Point
				begun = append(begun, g.Conv+i)
			}
		}
		p, ok := Open(g, l)
		if ok != (len(begun) <= 3) {
			t.Fatalf("Open(%v): %v", l, ok)
		}
		if !ok {
			continue
		}
		oks++
		copy(want.Heads[:], begun)
		if !same(p, want) || !Right(g, p) {
			t.Fatalf("Open(%v): %v, want %v", l, p, want)
		}
	}
	if oks < rounds/4 || oks > rounds*9/10 {
		t.Errorf("only one side was tried: %d of %d", oks, rounds)
	}
}

// P11.1: pools that are right, at the edges: a head may be unused, and a zone
// that is used up has none.
func TestRight(t *testing.T) {
	for _, p := range []api.Pool{
		{Points: []int{0, 0, 0, 0, 0, 0}},
		{Points: []int{8, 8, 8, 8, 8, 8}},
		{Points: []int{0, 8, 0, 8, 0, 8}, Heads: heads(2, 4, 6)},
		{Points: []int{7, 8, 0, 8, 0, 1}, Heads: heads(2, 0, 7)},
		{Points: []int{7, 8, 0, 8, 0, 1}, Heads: heads(7, 2, 0)},
		{Points: []int{7, 8, 0, 8, 0, 1}, Heads: heads(7, 4, 2)},
		{Points: []int{0, 0, 0, 0, 0, 0}, Heads: heads(0, 7, 0)},
		{Points: []int{1, 0, 0, 1, 0, 7}, Heads: heads(2, 5, 7)},
	} {
		if !Right(small, p) {
			t.Errorf("Right(%v): false", p)
		}
	}
}

// P11.1: each way in which a pool is wrong.
func TestWrong(t *testing.T) {
	for _, p := range []api.Pool{
		{},
		{Points: []int{0, 0, 0, 0, 0}},
		{Points: []int{0, 0, 0, 0, 0, 0, 0}},
		{Points: []int{0, 0, 0, 0, 0, 0, 0, 0}},
		{Points: []int{0, 0, 0, 0, 0}, Heads: heads(7, 0, 0)},
		{Points: []int{9, 0, 0, 0, 0, 0}},
		{Points: []int{0, 0, 0, 0, 0, -1}},
		{Points: []int{0, 0, 0, 9, 0, 0}, Heads: heads(5, 0, 0)},
		{Points: []int{0, 0, 0, -1, 0, 0}, Heads: heads(5, 0, 0)},
		{Points: []int{0, 0, 0, math.MinInt, 0, 0}, Heads: heads(5, 0, 0)},
		{Points: []int{0, 0, 0, math.MaxInt, 0, 0}},
		{Points: []int{1, 0, 0, 0, 0, 0}},
		{Points: []int{0, 0, 0, 0, 0, 7}},
		{Points: []int{1, 1, 1, 1, 0, 0}, Heads: heads(2, 3, 4)},
		{Points: []int{1, 0, 0, 0, 0, 0}, Heads: heads(3, 4, 5)},
		{Points: []int{8, 0, 0, 0, 0, 0}, Heads: heads(2, 0, 0)},
		{Points: []int{0, 0, 0, 0, 0, 8}, Heads: heads(0, 0, 7)},
		{Points: []int{1, 0, 0, 0, 0, 0}, Heads: heads(2, 2, 0)},
		{Points: []int{1, 0, 0, 0, 0, 0}, Heads: heads(2, 0, 2)},
		{Points: []int{1, 0, 0, 0, 0, 0}, Heads: heads(0, 2, 2)},
		{Points: []int{0, 0, 0, 0, 0, 0}, Heads: heads(3, 3, 0)},
		{Points: []int{0, 0, 0, 0, 0, 0}, Heads: heads(3, 4, 3)},
	} {
		if Right(small, p) {
			t.Errorf("Right(%v): true", p)
		}
	}
}

// P11.1: only sequential zones that there are can be heads.
func TestWrongHeads(t *testing.T) {
	for _, g := range measures() {
		for stream := range api.Streams {
			for _, zone := range wrongZones(g) {
				p := api.Pool{Points: make([]int, g.Seq)}
				p.Heads[stream] = zone
				if Right(g, p) != (zone == 0) {
					t.Errorf("Right(%v): %v", p, zone != 0)
				}
			}
			for i := range g.Seq {
				p := api.Pool{Points: make([]int, g.Seq)}
				p.Heads[stream] = g.Conv + i
				if !Right(g, p) {
					t.Errorf("Right(%v): false", p)
				}
			}
		}
	}
}

// plainRight tells by the words, one by one, whether a pool is right.
func plainRight(g api.Geom, p api.Pool) bool {
	if len(p.Points) != g.Seq {
		return false
	}
	times := map[int]int{}
	for _, zone := range p.Heads {
		if zone != 0 {
			times[zone]++
		}
	}
	sum := 0
	for i, point := range p.Points {
		n := times[g.Conv+i]
		sum += n
		switch {
		case point < 0 || point > g.Size || n > 1:
			return false
		case point == g.Size && n != 0:
			return false
		case point > 0 && point < g.Size && n != 1:
			return false
		}
	}
	count := 0
	for _, n := range times {
		count += n
	}
	return sum == count
}

// P11.1: pools by chance, most of them nearly right.
func TestRightWalk(t *testing.T) {
	c := chance(1111)
	oks, rounds := 0, 60000
	for range rounds {
		p := api.Pool{Points: make([]int, small.Seq)}
		for i := range p.Points {
			p.Points[i] = small.Size * c.below(2)
		}
		for stream := range p.Heads {
			p.Heads[stream] = c.below(2) * (1 + c.below(8))
			if i := p.Heads[stream] - small.Conv; i >= 0 && i < small.Seq {
				p.Points[i] = c.below(small.Size + 1)
			}
		}
		if c.below(4) == 0 {
			p.Points[c.below(small.Seq)] = c.below(12) - 2
		}
		want := plainRight(small, p)
		if got := Right(small, p); got != want {
			t.Fatalf("Right(%v): %v", p, got)
		}
		if want {
			oks++
		}
	}
	if oks < rounds/4 || oks > rounds*9/10 {
		t.Errorf("only one side was tried: %d of %d", oks, rounds)
	}
}

// P11.1: the free ones are unused and no heads; those that are used up are
// full; both rise.
func TestFreeAndFull(t *testing.T) {
	for _, c := range []struct {
		p          api.Pool
		free, full []int
	}{
		{api.Pool{Points: []int{0, 0, 0, 0, 0, 0}}, []int{2, 3, 4, 5, 6, 7}, nil},
		{api.Pool{Points: []int{8, 8, 8, 8, 8, 8}}, nil, []int{2, 3, 4, 5, 6, 7}},
		{api.Pool{Points: []int{0, 0, 0, 0, 0, 0}, Heads: heads(7, 4, 2)}, []int{3, 5, 6}, nil},
		{api.Pool{Points: []int{0, 8, 0, 6, 0, 8}, Heads: heads(5, 0, 0)}, []int{2, 4, 6}, []int{3, 7}},
		{api.Pool{Points: []int{8, 7, 1, 0, 8, 0}, Heads: heads(4, 5, 3)}, []int{7}, []int{2, 6}},
		{api.Pool{Points: []int{8, 7, 1, 0, 8, 8}, Heads: heads(4, 5, 3)}, nil, []int{2, 6, 7}},
	} {
		if !Right(small, c.p) {
			t.Fatalf("%v isn't right", c.p)
		}
		if got := Free(small, c.p); !slices.Equal(got, c.free) {
			t.Errorf("Free(%v): %v, want %v", c.p, got, c.free)
		}
		if got := Full(small, c.p); !slices.Equal(got, c.full) {
			t.Errorf("Full(%v): %v, want %v", c.p, got, c.full)
		}
	}
}

// P11.1: what is left in the head; nothing without one.
func TestRoom(t *testing.T) {
	for _, g := range measures() {
		for stream := range api.Streams {
			for point := range g.Size {
				p := api.Pool{Points: make([]int, g.Seq)}
				p.Points[g.Seq-1] = point
				p.Heads[stream] = g.Conv + g.Seq - 1
				for other := range api.Streams {
					want := 0
					if other == stream {
						want = g.Size - point
					}
					if got := Room(g, p, other); got != want {
						t.Errorf("Room(%v, %d): %d, want %d", p, other, got, want)
					}
				}
			}
		}
	}
}

// P11.2: a head is gone on with, wherever it lies and though others are free;
// with its last sector it is none any more, and the next one is the first free
// zone, be it ahead or behind.
func TestStepInHead(t *testing.T) {
	for stream := range api.Streams {
		p := api.Pool{Points: []int{8, 0, 0, 6, 0, 0}}
		p.Heads[stream] = 5
		p = step(t, small, p, stream, api.At{Zone: 5, Off: 6})
		if p.Heads[stream] != 5 || p.Points[3] != 7 {
			t.Errorf("the pool then: %v", p)
		}
		p = step(t, small, p, stream, api.At{Zone: 5, Off: 7})
		if p.Heads != heads(0, 0, 0) || p.Points[3] != 8 {
			t.Errorf("the pool then: %v", p)
		}
		p = step(t, small, p, stream, api.At{Zone: 3, Off: 0})
		if p.Heads[stream] != 3 || p.Points[1] != 1 {
			t.Errorf("the pool then: %v", p)
		}
	}
}

// P11.2: a zone that is unused, but another stream's head, isn't free.
func TestStepPassesHeads(t *testing.T) {
	p := api.Pool{Points: []int{0, 8, 0, 0, 0, 0}, Heads: heads(2, 0, 4)}
	p = step(t, small, p, api.Cold, api.At{Zone: 5, Off: 0})
	p = step(t, small, p, api.Hot, api.At{Zone: 2, Off: 0})
	p = step(t, small, p, api.Log, api.At{Zone: 4, Off: 0})
	want := api.Pool{Points: []int{1, 8, 1, 1, 0, 0}, Heads: heads(2, 5, 4)}
	if !same(p, want) {
		t.Errorf("the pool then: %v, want %v", p, want)
	}
}

// P11.2: without a head, and without a free zone, there is no next place, and
// the pool is what it was; the streams that have heads go on.
func TestNoStep(t *testing.T) {
	for _, p := range []api.Pool{
		{Points: []int{8, 8, 8, 8, 8, 8}},
		{Points: []int{8, 8, 7, 8, 0, 8}, Heads: heads(4, 6, 0)},
		{Points: []int{0, 8, 8, 8, 8, 8}, Heads: heads(0, 2, 0)},
		{Points: []int{8, 8, 8, 8, 0, 1}, Heads: heads(0, 6, 7)},
	} {
		for stream, zone := range p.Heads {
			a, q, ok := Step(small, p, stream)
			if ok != (zone != 0) {
				t.Errorf("Step(%v, %d): %v", p, stream, ok)
			}
			if !ok && (a != api.At{} || !same(p, q)) {
				t.Errorf("Step(%v, %d): %v %v beside false", p, stream, a, q)
			}
			if ok && a.Zone != zone {
				t.Errorf("Step(%v, %d): %v", p, stream, a)
			}
		}
	}
}

// P11.2: zones that are used up are reset, each for itself; no others, be they
// unused, begun, or none.
func TestReset(t *testing.T) {
	for _, g := range measures() {
		p := api.Pool{Points: make([]int, g.Seq), Heads: heads(g.Conv+1, 0, g.Conv+3)}
		for i := range p.Points {
			p.Points[i] = g.Size
		}
		copy(p.Points, []int{g.Size, g.Size - 1, 0, 0, g.Size})
		for zone := g.Conv; zone < g.Conv+g.Seq; zone++ {
			want := api.Pool{Points: slices.Clone(p.Points), Heads: p.Heads}
			full := p.Points[zone-g.Conv] == g.Size
			if full {
				want.Points[zone-g.Conv] = 0
			}
			q, ok := Reset(g, p, zone)
			if ok != full || !same(q, want) || !Right(g, q) {
				t.Errorf("Reset(%v, %d): %v %v", p, zone, q, ok)
			}
			if full && (!slices.Contains(Free(g, q), zone) || slices.Contains(Full(g, q), zone)) {
				t.Errorf("Reset(%v, %d): it isn't free then", p, zone)
			}
			if r, ok := Reset(g, q, zone); ok || !same(r, q) {
				t.Errorf("Reset(%v, %d) twice: %v %v", p, zone, r, ok)
			}
		}
		for _, zone := range wrongZones(g) {
			if q, ok := Reset(g, p, zone); ok || !same(q, p) {
				t.Errorf("Reset(%v, %d): %v %v", p, zone, q, ok)
			}
		}
	}
}

// plain is a pool as lists of what was handed out: of each zone how many, and
// of each stream the zone that it is in the midst of.
type plain struct {
	handed map[api.At]int
	counts map[int]int
	midst  map[int]int
}

// next tells, zone by zone, where the stream's next place is.
func (m *plain) next(g api.Geom, stream int) (api.At, bool) {
	for zone := g.Conv; zone < g.Conv+g.Seq; zone++ {
		if owner, begun := m.midst[zone]; begun && owner == stream {
			return api.At{Zone: zone, Off: m.counts[zone]}, true
		}
	}
	for zone := g.Conv; zone < g.Conv+g.Seq; zone++ {
		if m.counts[zone] == 0 {
			return api.At{Zone: zone}, true
		}
	}
	return api.At{}, false
}

// hand marks a place as handed out to a stream.
func (m *plain) hand(g api.Geom, a api.At, stream int) {
	m.handed[a]++
	m.counts[a.Zone]++
	m.midst[a.Zone] = stream
	if m.counts[a.Zone] == g.Size {
		delete(m.midst, a.Zone)
	}
}

// expect holds that a pool is what the lists say.
func (m *plain) expect(t *testing.T, g api.Geom, p api.Pool) {
	t.Helper()
	want := api.Pool{Points: make([]int, g.Seq)}
	var free, full []int
	for i := range g.Seq {
		zone := g.Conv + i
		want.Points[i] = m.counts[zone]
		if stream, begun := m.midst[zone]; begun {
			want.Heads[stream] = zone
		} else if m.counts[zone] == 0 {
			free = append(free, zone)
		} else {
			full = append(full, zone)
		}
	}
	if !same(p, want) || !Right(g, p) {
		t.Fatalf("the pool: %v, want %v", p, want)
	}
	if got := Free(g, p); !slices.Equal(got, free) {
		t.Fatalf("Free(%v): %v, want %v", p, got, free)
	}
	if got := Full(g, p); !slices.Equal(got, full) {
		t.Fatalf("Full(%v): %v, want %v", p, got, full)
	}
	for stream, zone := range want.Heads {
		room := 0
		if zone != 0 {
			room = g.Size - m.counts[zone]
		}
		if got := Room(g, p, stream); got != room {
			t.Fatalf("Room(%v, %d): %d, want %d", p, stream, got, room)
		}
	}
}

// P11.1, P11.2, P11.3: long walks: a right pool stays right, and between two
// resets of a zone each of its sectors is handed out once, in order.
func TestWalk(t *testing.T) {
	for seed, g := range measures() {
		c := chance(112 + seed)
		p := unused(t, g)
		m := plain{map[api.At]int{}, map[int]int{}, map[int]int{}}
		none, resets := 0, 0
		for range max(6000, 3*g.Seq*g.Size) {
			if zone := c.below(g.Conv + g.Seq + 2); c.below(g.Size) == 0 {
				_, begun := m.midst[zone]
				full := m.counts[zone] == g.Size && !begun
				q, ok := Reset(g, p, zone)
				if ok != full {
					t.Fatalf("Reset(%v, %d): %v", p, zone, ok)
				}
				if full {
					resets++
					m.counts[zone] = 0
					for off := range g.Size {
						m.handed[api.At{Zone: zone, Off: off}]--
					}
				}
				p = q
			} else {
				stream := c.below(api.Streams)
				want, is := m.next(g, stream)
				a, q, ok := Step(g, p, stream)
				if a != want || ok != is {
					t.Fatalf("Step(%v, %d): %v %v, want %v %v", p, stream, a, ok, want, is)
				}
				if is {
					m.hand(g, a, stream)
				} else {
					none++
				}
				if is && m.handed[a] != 1 {
					t.Fatalf("%v was handed out %d times", a, m.handed[a])
				}
				p = q
			}
			m.expect(t, g, p)
		}
		if none == 0 || resets < 5 {
			t.Errorf("%v: too little was tried: %d times no place, %d resets", g, none, resets)
		}
	}
}

// P11.3: one stream alone is handed each sector of the device once, in the
// order of the places.
func TestAllOfTheDevice(t *testing.T) {
	for _, g := range measures() {
		for stream := range api.Streams {
			p := unused(t, g)
			for n := range g.Seq * g.Size {
				p = step(t, g, p, stream, api.At{Zone: g.Conv + n/g.Size, Off: n % g.Size})
			}
			if a, q, ok := Step(g, p, stream); ok || a != (api.At{}) || !same(p, q) {
				t.Errorf("Step behind all: %v %v %v", a, q, ok)
			}
		}
	}
}

// P11.3, P11.1: behind a loss of power the zones tell the same pool: all that
// is lost is which stream goes on in which head.
func TestOpenOfWhatWasStepped(t *testing.T) {
	c := chance(113)
	for range 300 {
		l := zone.New(small)
		p := unused(t, small)
		for range c.below(40) {
			a, q, ok := Step(small, p, c.below(api.Streams))
			if ok {
				m, e := zone.Write(small, l, a)
				if e != api.OK {
					t.Fatalf("Write(%v): %v", a, e)
				}
				l = m
			}
			p = q
		}
		q, ok := Open(small, zone.Power(l))
		old, now := p.Heads, q.Heads
		slices.Sort(old[:])
		slices.Sort(now[:])
		if !ok || !slices.Equal(p.Points, q.Points) || old != now {
			t.Fatalf("Open: %v %v, want %v", q, ok, p)
		}
	}
}

// P11.4: what is handed in stays.
func TestHandedInStays(t *testing.T) {
	p := api.Pool{Points: []int{8, 7, 0, 0, 8, 0}, Heads: heads(3, 5, 0)}
	was := api.Pool{Points: slices.Clone(p.Points), Heads: p.Heads}
	for stream := range api.Streams {
		Step(small, p, stream)
		Room(small, p, stream)
	}
	for zone := range 9 {
		Reset(small, p, zone)
	}
	Free(small, p)
	Full(small, p)
	Right(small, p)
	if !same(p, was) {
		t.Errorf("the pool has changed: %v", p)
	}
	l := zone.New(small)
	l[3] = api.Zone{State: api.Full, Point: 2}
	l[4] = api.Zone{State: api.Closed, Point: 2}
	kept := slices.Clone(l)
	Open(small, l)
	if !slices.Equal(l, kept) {
		t.Errorf("the zones have changed: %v", l)
	}
}

// P11.4: what is answered shares nothing with what was handed in, nor one
// answer with the next; with true or with false.
func TestAnswersAreNew(t *testing.T) {
	p := api.Pool{Points: []int{8, 7, 8, 0, 8, 8}, Heads: heads(3, 5, 0)}
	was := api.Pool{Points: slices.Clone(p.Points), Heads: p.Heads}
	spoil := func(l []int) {
		for i := range l {
			l[i] = -5
		}
		_ = append(l, -6)
	}
	for range 2 {
		for stream := range api.Streams {
			_, q, _ := Step(small, p, stream)
			spoil(q.Points)
		}
		for zone := range 9 {
			q, _ := Reset(small, p, zone)
			spoil(q.Points)
		}
		spoil(Free(small, p))
		spoil(Full(small, p))
		if !same(p, was) {
			t.Fatalf("the pool has changed: %v", p)
		}
		if got := Full(small, p); !slices.Equal(got, []int{2, 4, 6, 7}) {
			t.Errorf("Full: %v", got)
		}
	}
	l := zone.New(small)
	first, _ := Open(small, l)
	spoil(first.Points)
	unused(t, small)
	if !slices.Equal(l, zone.New(small)) {
		t.Errorf("the zones have changed: %v", l)
	}
}

// P11.4: a part of a longer list is handed in: what lies behind it stays.
func TestBehindWhatIsHandedIn(t *testing.T) {
	long := []int{8, 8, 8, 8, 8, 0, 7, 7}
	p := api.Pool{Points: long[:6]}
	_, q, ok := Step(small, p, api.Hot)
	if !ok || q.Points[5] != 1 {
		t.Fatalf("Step: %v %v", q, ok)
	}
	_ = append(q.Points, 9)
	if !slices.Equal(long, []int{8, 8, 8, 8, 8, 0, 7, 7}) {
		t.Errorf("what was handed in has changed: %v", long)
	}
}

// P1: no call panics or goes on for ever, whatever it is given.
func TestWrongOnesEndWithoutPanic(t *testing.T) {
	numbers := []int{0, 1, -1, 2, 3, 7, 8, 1 << 40, math.MaxInt, math.MinInt}
	geoms := []api.Geom{
		{},
		small,
		{Conv: -1, Soft: -1, Seq: -1, Size: -1, Open: -1},
		{Conv: -1, Seq: 3},
		{Conv: 3, Seq: -1},
		{Conv: math.MaxInt, Seq: math.MaxInt, Size: math.MaxInt},
		{Conv: math.MinInt, Seq: math.MinInt, Size: math.MinInt},
		{Conv: math.MinInt, Seq: math.MaxInt, Size: 1},
		{Seq: 2, Size: 1},
		{Seq: 2},
	}
	for _, g := range geoms {
		for _, l := range [][]api.Zone{nil, {{}}, {{}, {}}, {{State: -3, Point: -9}, {State: 9, Point: math.MaxInt}}, zone.New(small)} {
			Open(g, l)
		}
		for _, points := range [][]int{nil, {0}, {3}, numbers} {
			for _, zone := range numbers {
				p := api.Pool{Points: points, Heads: heads(zone, zone, 0)}
				Right(g, p)
				Free(g, p)
				Full(g, p)
				for _, n := range numbers {
					Room(g, p, n)
					Step(g, p, n)
					Reset(g, p, n)
				}
			}
		}
	}
}
