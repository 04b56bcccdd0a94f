package lane

import (
	"math"
	"slices"
	"testing"

	"windrow/api"
	"windrow/pool"
)

// chance answers numbers that follow no simple pattern, the same in each run.
type chance uint64

func (c *chance) below(n int) int {
	*c = *c*6364136223846793005 + 1442695040888963407
	return int(uint64(*c) >> 32 % uint64(n))
}

// small is a right measure with the least zones: 2 to 7 are sequential.
var small = api.Geom{Conv: 2, Soft: 8, Seq: 6, Size: 8, Open: 3}

// measures are right measures, with the least and the most of all kinds.
func measures() []api.Geom {
	return []api.Geom{
		small,
		{Conv: 2, Soft: 8, Seq: 6, Size: 9, Open: 3},
		{Conv: 5, Soft: 40, Seq: 7, Size: 16, Open: 9},
		{Conv: 58, Soft: 1 << 16, Seq: 6, Size: 8, Open: 3},
		{Conv: 2, Soft: 500, Seq: 62, Size: api.MaxSize, Open: 3},
	}
}

// same tells whether two pools are one in what they say.
func same(p, q api.Pool) bool {
	return slices.Equal(p.Points, q.Points) && p.Heads == q.Heads
}

// own answers a pool that shares nothing with the one it is made of.
func own(p api.Pool) api.Pool {
	return api.Pool{Points: slices.Clone(p.Points), Heads: p.Heads}
}

// heads writes the streams' heads short.
func heads(hot, cold, log int) [api.Streams]int {
	return [api.Streams]int{api.Hot: hot, api.Cold: cold, api.Log: log}
}

// unused answers the pool of a device to which nothing was done.
func unused(g api.Geom) api.Pool { return api.Pool{Points: make([]int, g.Seq)} }

// withFree answers a right pool of small in which the heads of the streams have
// that much room (0: there is none), and so many zones are free; all others are
// used up.
func withFree(t *testing.T, free, hot, cold, log int) api.Pool {
	t.Helper()
	p := api.Pool{Points: []int{8, 8, 8, 8, 8, 8}}
	for stream, room := range heads(hot, cold, log) {
		if room > 0 {
			p.Points[stream] = small.Size - room
			p.Heads[stream] = small.Conv + stream
		}
	}
	for i := len(p.Points) - 1; free > 0; i-- {
		p.Points[i] = 0
		free--
	}
	if !pool.Right(small, p) {
		t.Fatalf("%v isn't right", p)
	}
	return p
}

// anyPool answers a right pool by chance.
func anyPool(t *testing.T, g api.Geom, c *chance) api.Pool {
	t.Helper()
	p := unused(g)
	most := c.below(5)
	for i := range p.Points {
		if c.below(4) >= most {
			p.Points[i] = g.Size
		}
	}
	for stream := range p.Heads {
		i := c.below(g.Seq)
		if c.below(3) == 0 || slices.Contains(p.Heads[:], g.Conv+i) {
			continue
		}
		p.Heads[stream] = g.Conv + i
		p.Points[i] = []int{0, 1, g.Size - 1, c.below(g.Size)}[c.below(4)]
	}
	if !pool.Right(g, p) {
		t.Fatalf("%v isn't right", p)
	}
	return p
}

// stepped answers what pool.Step hands out for the streams, one by one.
func stepped(g api.Geom, p api.Pool, streams []int) ([]api.At, api.Pool, bool) {
	var l []api.At
	for _, stream := range streams {
		a, q, ok := pool.Step(g, p, stream)
		if !ok {
			return nil, api.Pool{}, false
		}
		l, p = append(l, a), q
	}
	return l, p, true
}

// times answers a list of n streams that are one.
func times(stream, n int) []int {
	l := make([]int, n)
	for i := range l {
		l[i] = stream
	}
	return l
}

// plainZones tells zone by zone how many are taken.
func plainZones(g api.Geom, p api.Pool, stream, n int) int {
	zones := 0
	for room := pool.Room(g, p, stream); room < n; room += g.Size {
		zones++
	}
	return zones
}

// plainFits tells by numbers of zones alone whether a transaction fits.
func plainFits(g api.Geom, p api.Pool, puts, others int) bool {
	logs := plainZones(g, p, api.Log, others)
	left := len(pool.Free(g, p)) - plainZones(g, p, api.Hot, puts) - logs
	if pool.Room(g, p, api.Log)+logs*g.Size == others {
		return left >= 2
	}
	return left >= 1
}

// plainMoves tells by numbers of zones alone whether the cleaner goes on.
func plainMoves(g api.Geom, p api.Pool, live int) bool {
	return len(pool.Free(g, p)) >= plainZones(g, p, api.Cold, live)+plainZones(g, p, api.Log, 1)
}

// P12.1, P12.2: the chapter's example.
func TestExample(t *testing.T) {
	p := unused(small)
	if !Fits(small, p, 8, 1) || Zones(small, p, api.Hot, 9) != 2 {
		t.Errorf("Fits: %v, Zones: %d", Fits(small, p, 8, 1), Zones(small, p, api.Hot, 9))
	}
}

// P12.1: streams that take turns, each in its head, and in the first free zone
// when that is used up.
func TestPlan(t *testing.T) {
	p := api.Pool{Points: []int{0, 7, 8, 0, 6, 0}, Heads: heads(3, 0, 6)}
	streams := []int{api.Log, api.Hot, api.Log, api.Hot, api.Cold, api.Log, api.Cold, api.Hot}
	want := []api.At{{Zone: 6, Off: 6}, {Zone: 3, Off: 7}, {Zone: 6, Off: 7}, {Zone: 2, Off: 0}, {Zone: 5, Off: 0}, {Zone: 7, Off: 0}, {Zone: 5, Off: 1}, {Zone: 2, Off: 1}}
	then := api.Pool{Points: []int{2, 8, 8, 2, 8, 1}, Heads: heads(2, 5, 7)}
	l, q, ok := Plan(small, p, streams)
	if !ok || !slices.Equal(l, want) || !same(q, then) {
		t.Errorf("Plan: %v %v %v, want %v %v", l, q, ok, want, then)
	}
}

// P12.1: of no streams there are no places, and the pool is what it was, also
// where nothing is left.
func TestPlanOfNothing(t *testing.T) {
	for _, p := range []api.Pool{unused(small), {Points: []int{8, 8, 8, 8, 8, 8}}, {Points: []int{8, 1, 8, 0, 8, 8}, Heads: heads(0, 3, 5)}} {
		for _, streams := range [][]int{nil, {}} {
			if l, q, ok := Plan(small, p, streams); !ok || len(l) != 0 || !same(p, q) {
				t.Errorf("Plan(%v) of nothing: %v %v %v", p, l, q, ok)
			}
		}
	}
}

// P12.1: all that a stream can have is planned, and with one more nothing.
func TestPlanToTheLast(t *testing.T) {
	for _, g := range measures() {
		for stream := range api.Streams {
			p := unused(g)
			p.Points[1], p.Points[2], p.Points[3] = g.Size, g.Size-1, 1
			p.Heads[stream] = g.Conv + 2
			p.Heads[(stream+1)%api.Streams] = g.Conv + 3
			all := 1 + (g.Seq-3)*g.Size
			l, q, ok := Plan(g, p, times(stream, all))
			if !ok || len(l) != all || l[0] != (api.At{Zone: g.Conv + 2, Off: g.Size - 1}) || l[all-1] != (api.At{Zone: g.Conv + g.Seq - 1, Off: g.Size - 1}) {
				t.Fatalf("Plan of all for %d: %d places, %v", stream, len(l), ok)
			}
			if len(pool.Free(g, q)) != 0 || pool.Room(g, q, stream) != 0 || q.Points[3] != 1 {
				t.Errorf("the pool then: %v", q)
			}
			l, q, ok = Plan(g, p, times(stream, all+1))
			if ok || len(l) != 0 || !same(p, q) {
				t.Errorf("Plan of one more for %d: %d places, %v, %v", stream, len(l), q, ok)
			}
		}
	}
}

// P12.1: one place that can't be handed out, be it the first or the last one,
// spoils the plan, though others could be.
func TestNoPlan(t *testing.T) {
	p := api.Pool{Points: []int{8, 6, 8, 8, 8, 5}, Heads: heads(3, 0, 7)}
	for _, c := range []struct {
		streams []int
		ok      bool
	}{
		{[]int{api.Hot, api.Log, api.Log, api.Hot, api.Log}, true},
		{[]int{api.Cold}, false},
		{[]int{api.Cold, api.Hot}, false},
		{[]int{api.Hot, api.Cold, api.Log}, false},
		{[]int{api.Hot, api.Log, api.Cold}, false},
		{[]int{api.Hot, api.Hot, api.Hot}, false},
		{[]int{api.Hot, api.Log, api.Log, api.Hot, api.Log, api.Log}, false},
	} {
		l, q, ok := Plan(small, p, c.streams)
		if ok != c.ok || ok && len(l) != len(c.streams) {
			t.Errorf("Plan(%v): %v %v", c.streams, l, ok)
		}
		if !ok && (len(l) != 0 || !same(p, q)) {
			t.Errorf("Plan(%v): %v %v beside false", c.streams, l, q)
		}
	}
}

// P12.1: plans of streams by chance are what pool.Step hands out one by one.
func TestPlanWalk(t *testing.T) {
	c := chance(121)
	oks, rounds := 0, 4000
	for round := range rounds {
		g := measures()[round%4]
		p := anyPool(t, g, &c)
		streams := make([]int, c.below(g.Size*(1+c.below(6))))
		for i := range streams {
			streams[i] = c.below(api.Streams)
		}
		want, then, can := stepped(g, p, streams)
		l, q, ok := Plan(g, p, streams)
		if ok != can || !slices.Equal(l, want) {
			t.Fatalf("Plan(%v, %v): %v %v, want %v %v", p, streams, l, ok, want, can)
		}
		if can {
			oks++
		} else {
			then = p
		}
		if !same(q, then) || !pool.Right(g, q) {
			t.Fatalf("Plan(%v, %v): %v, want %v", p, streams, q, then)
		}
	}
	if oks < rounds/4 || oks > rounds*9/10 {
		t.Errorf("only one side was tried: %d of %d", oks, rounds)
	}
}

// P12.1: none as long as the head has room; then one for each Size, or part of
// it; also more than there are.
func TestZones(t *testing.T) {
	for _, g := range measures() {
		for stream := range api.Streams {
			for point := range g.Size {
				p := unused(g)
				p.Points[1] = point
				p.Heads[stream] = g.Conv + 1
				room := g.Size - point
				for zones := range 4 {
					most := room + zones*g.Size
					if got := Zones(g, p, stream, most); got != zones {
						t.Fatalf("Zones(%v, %d, %d): %d, want %d", p, stream, most, got, zones)
					}
					if got := Zones(g, p, stream, most+1); got != zones+1 {
						t.Fatalf("Zones(%v, %d, %d): %d, want %d", p, stream, most+1, got, zones+1)
					}
				}
				if got := Zones(g, p, stream, 0); got != 0 {
					t.Fatalf("Zones(%v, %d, 0): %d", p, stream, got)
				}
			}
		}
	}
}

// P12.1: without a head all the places need zones, whatever other streams have;
// whether there are so many isn't asked.
func TestZonesWithoutHead(t *testing.T) {
	p := api.Pool{Points: []int{8, 1, 8, 0, 8, 8}, Heads: heads(3, 0, 5)}
	for n, want := range map[int]int{0: 0, 1: 1, 7: 1, 8: 1, 9: 2, 16: 2, 17: 3, api.MaxBlock: api.MaxBlock / 8, api.MaxBlock - 8: api.MaxBlock/8 - 1, api.MaxBlock - 7: api.MaxBlock / 8} {
		if got := Zones(small, p, api.Cold, n); got != want {
			t.Errorf("Zones(Cold, %d): %d, want %d", n, got, want)
		}
	}
	if got := Zones(small, p, api.Hot, api.MaxBlock); got != (api.MaxBlock-7+7)/8 {
		t.Errorf("Zones(Hot, MaxBlock): %d", got)
	}
}

// P12.1: where there are enough, just so many zones are free no more behind the
// plan.
func TestZonesAreTaken(t *testing.T) {
	c := chance(1211)
	for round := range 3000 {
		g := measures()[round%4]
		p := anyPool(t, g, &c)
		stream, n := c.below(api.Streams), c.below(3*g.Size)
		want := plainZones(g, p, stream, n)
		if got := Zones(g, p, stream, n); got != want {
			t.Fatalf("Zones(%v, %d, %d): %d, want %d", p, stream, n, got, want)
		}
		_, q, ok := Plan(g, p, times(stream, n))
		free := len(pool.Free(g, p))
		if ok != (want <= free) || ok && len(pool.Free(g, q)) != free-want {
			t.Fatalf("Plan(%v) of %d for %d: %v %v, %d zones", p, n, stream, q, ok, want)
		}
	}
}

// P12.1: one zone, as long as the head of Log has room; two without; the heads
// of others, and how much is free, change nothing.
func TestKeep(t *testing.T) {
	for _, g := range measures() {
		for log := range 2 {
			for point := range g.Size {
				p := unused(g)
				p.Points[0], p.Points[1], p.Points[4] = g.Size, point, point
				p.Heads = heads(g.Conv+1, g.Conv+4, 0)
				if log == 1 {
					p.Heads = heads(0, g.Conv+4, g.Conv+1)
				}
				if got := Keep(g, p); got != 2-log {
					t.Errorf("Keep(%v): %d", p, got)
				}
			}
		}
	}
	for want, p := range map[int]api.Pool{
		1: {Points: []int{8, 8, 8, 8, 8, 0}, Heads: heads(0, 0, 7)},
		2: {Points: []int{8, 8, 8, 8, 8, 8}},
	} {
		if got := Keep(small, p); got != want {
			t.Errorf("Keep(%v): %d", p, got)
		}
	}
}

// P12.2: what fits, and what doesn't by one place.
func TestFits(t *testing.T) {
	for _, c := range []struct {
		free, hot, cold, log int
		puts, others         int
		want                 bool
	}{
		// Nothing is asked for: what must stay free is free, or it isn't.
		{0, 0, 0, 5, 0, 0, false},
		{1, 0, 0, 5, 0, 0, true},
		{1, 3, 3, 0, 0, 0, false},
		{2, 0, 0, 0, 0, 0, true},
		// All goes into the heads.
		{1, 3, 0, 3, 3, 2, true},
		{1, 3, 0, 3, 4, 2, false},
		{0, 3, 0, 3, 3, 2, false},
		// The head of Log is used up just then: two must stay free.
		{1, 3, 0, 3, 3, 3, false},
		{2, 3, 0, 3, 3, 3, true},
		{2, 3, 0, 3, 4, 3, false},
		// It goes on in a new one, and one must stay free again.
		{2, 3, 0, 3, 3, 4, true},
		{2, 3, 0, 3, 4, 4, false},
		{1, 3, 0, 3, 3, 4, false},
		{3, 3, 0, 3, 11, 4, true},
		{3, 3, 0, 3, 12, 4, false},
		// It uses up a zone of its own.
		{2, 0, 0, 3, 0, 10, true},
		{2, 0, 0, 3, 0, 11, false},
		{3, 0, 0, 3, 0, 11, true},
		{3, 0, 0, 3, 0, 12, true},
		// The streams have no heads.
		{6, 0, 0, 0, 8, 1, true},
		{6, 0, 0, 0, 32, 1, true},
		{6, 0, 0, 0, 33, 1, false},
		{6, 0, 0, 0, 32, 7, true},
		{6, 0, 0, 0, 32, 8, false},
		{6, 0, 0, 0, 24, 8, true},
		{6, 0, 0, 0, 0, 39, true},
		{6, 0, 0, 0, 0, 40, false},
		{6, 0, 0, 0, 40, 0, false},
		// Cold's head is of no use here.
		{1, 1, 8, 2, 1, 1, true},
		{1, 1, 8, 2, 2, 1, false},
		{6, 0, 0, 0, api.MaxBlock, api.MaxBlock, false},
		{6, 0, 0, 0, api.MaxBlock, 0, false},
		{6, 0, 0, 0, 0, api.MaxBlock, false},
	} {
		p := withFree(t, c.free, c.hot, c.cold, c.log)
		if got := Fits(small, p, c.puts, c.others); got != c.want {
			t.Errorf("Fits(%v, %d, %d): %v", p, c.puts, c.others, got)
		}
	}
}

// P12.2: all puts and others that a small pool might take, and one beyond, held
// against numbers of zones.
func TestFitsAll(t *testing.T) {
	c := chance(122)
	for range 12 {
		p := anyPool(t, small, &c)
		for puts := range small.Seq*small.Size + 2 {
			for others := range small.Seq*small.Size + 2 {
				want := plainFits(small, p, puts, others)
				if got := Fits(small, p, puts, others); got != want {
					t.Fatalf("Fits(%v, %d, %d): %v", p, puts, others, got)
				}
			}
		}
	}
}

// P12.2: pools of all measures by chance, and the greatest device at the edge.
func TestFitsWalk(t *testing.T) {
	c := chance(1221)
	oks, rounds := 0, 4000
	for round := range rounds {
		g := measures()[round%4]
		p := anyPool(t, g, &c)
		puts, others := c.below(3*g.Size), c.below(1+c.below(2*g.Size))
		want := plainFits(g, p, puts, others)
		if got := Fits(g, p, puts, others); got != want {
			t.Fatalf("Fits(%v, %d, %d): %v", p, puts, others, got)
		}
		if want {
			oks++
		}
	}
	if oks < rounds/8 || oks > rounds*7/8 {
		t.Errorf("only one side was tried: %d of %d", oks, rounds)
	}
	g := measures()[4]
	p := unused(g)
	for i := range 30 {
		p.Points[i] = g.Size
	}
	// Sixteen zones of each stream of 32 that are free: none is left.
	for _, c := range []struct {
		puts, others int
		want         bool
	}{
		{api.MaxBlock, api.MaxBlock, false},
		{api.MaxBlock - g.Size, api.MaxBlock, false},
		{api.MaxBlock - 2*g.Size, api.MaxBlock, true},
		{api.MaxBlock - 2*g.Size + 1, api.MaxBlock, false},
		{api.MaxBlock - g.Size, api.MaxBlock - 1, true},
		{api.MaxBlock - g.Size + 1, api.MaxBlock - 1, false},
		{api.MaxBlock, api.MaxBlock - g.Size, false},
		{api.MaxBlock, api.MaxBlock - g.Size - 1, true},
	} {
		if got := Fits(g, p, c.puts, c.others); got != c.want {
			t.Errorf("Fits(%d, %d): %v", c.puts, c.others, got)
		}
	}
}

// P12.2: what can be moved, and what can't by one place; nothing must stay
// free, and Log takes but one place.
func TestMoves(t *testing.T) {
	for _, c := range []struct {
		free, hot, cold, log int
		live                 int
		want                 bool
	}{
		{0, 0, 0, 0, 0, false},
		{0, 5, 5, 0, 0, false},
		{0, 0, 0, 1, 0, true},
		{0, 8, 0, 1, 1, false},
		{1, 0, 0, 0, 0, true},
		{1, 0, 0, 0, 1, false},
		{0, 0, 3, 1, 3, true},
		{0, 0, 3, 1, 4, false},
		{1, 0, 3, 0, 3, true},
		{1, 0, 3, 0, 4, false},
		{1, 0, 3, 1, 11, true},
		{1, 0, 3, 1, 12, false},
		{1, 0, 0, 1, 8, true},
		{1, 0, 0, 1, 9, false},
		{2, 0, 0, 0, 8, true},
		{2, 0, 0, 0, 9, false},
		{6, 0, 0, 0, 40, true},
		{6, 0, 0, 0, 41, false},
		{6, 0, 0, 0, api.MaxBlock, false},
	} {
		p := withFree(t, c.free, c.hot, c.cold, c.log)
		if got := Moves(small, p, c.live); got != c.want {
			t.Errorf("Moves(%v, %d): %v", p, c.live, got)
		}
	}
}

// P12.2: pools of all measures by chance, held against numbers of zones.
func TestMovesWalk(t *testing.T) {
	c := chance(1222)
	oks, rounds := 0, 4000
	for round := range rounds {
		g := measures()[round%4]
		p := anyPool(t, g, &c)
		live := c.below(4 * g.Size)
		want := plainMoves(g, p, live)
		if got := Moves(g, p, live); got != want {
			t.Fatalf("Moves(%v, %d): %v", p, live, got)
		}
		if want {
			oks++
		}
	}
	if oks < rounds/8 || oks > rounds*7/8 {
		t.Errorf("only one side was tried: %d of %d", oks, rounds)
	}
	g := measures()[4]
	p := unused(g)
	for i := range g.Seq - 16 {
		p.Points[i] = g.Size
	}
	if Moves(g, p, api.MaxBlock) || !Moves(g, p, api.MaxBlock-g.Size) {
		t.Error("Moves with sixteen zones free")
	}
	p.Points[0] = 0
	if !Moves(g, p, api.MaxBlock) {
		t.Error("Moves with seventeen zones free")
	}
}

// movesAll holds that the cleaner can move whatever a zone may have, and that
// there is a plan for it.
func movesAll(t *testing.T, g api.Geom, p api.Pool) {
	t.Helper()
	for live := range g.Size {
		if !Moves(g, p, live) {
			t.Fatalf("Moves(%v, %d): false", p, live)
		}
		streams := append(times(api.Cold, live), api.Log)
		if _, _, ok := Plan(g, p, streams); !ok {
			t.Fatalf("Plan(%v) for %d: false", p, live)
		}
	}
}

// P12.3: where as many zones are free as must stay so, whatever is live in a
// zone can be moved; so it can behind all that fits.
func TestMovesBehindAllThatFits(t *testing.T) {
	c := chance(123)
	kept, fitted := 0, 0
	for round := range 2500 {
		g := measures()[round%4]
		p := anyPool(t, g, &c)
		if len(pool.Free(g, p)) >= Keep(g, p) {
			kept++
			movesAll(t, g, p)
		}
		puts, others := c.below(3*g.Size), c.below(1+c.below(2*g.Size))
		if !Fits(g, p, puts, others) {
			continue
		}
		fitted++
		_, q, ok := Plan(g, p, append(times(api.Hot, puts), times(api.Log, others)...))
		if !ok || len(pool.Free(g, q)) < Keep(g, q) {
			t.Fatalf("Fits(%v, %d, %d), and then %v", p, puts, others, q)
		}
		movesAll(t, g, q)
	}
	if kept < 500 || fitted < 300 {
		t.Errorf("too little was tried: %d %d", kept, fitted)
	}
}

// P12.3: transactions are let in as long as they fit: at the end nothing fits,
// and the cleaner still has room.
func TestFilledUp(t *testing.T) {
	c := chance(1231)
	for _, g := range measures() {
		p := unused(g)
		for missed := 0; missed < 20; {
			puts, others := c.below(g.Size/2+1), 1+c.below(3)
			if !Fits(g, p, puts, others) {
				missed++
				continue
			}
			_, q, ok := Plan(g, p, append(times(api.Hot, puts), times(api.Log, others)...))
			if !ok {
				t.Fatalf("Plan(%v): false", p)
			}
			p = q
		}
		if Fits(g, p, g.Size, g.Size) {
			t.Errorf("there is still room: %v", p)
		}
		movesAll(t, g, p)
	}
}

// P12.4: what is handed in stays, the pool and the streams, with true and with
// false.
func TestHandedInStays(t *testing.T) {
	long := []int{8, 6, 0, 7, 0, 8, 5, 5}
	p := api.Pool{Points: long[:6], Heads: heads(3, 0, 5)}
	kept := slices.Clone(long)
	streams := []int{api.Log, api.Hot, api.Cold, api.Log, 9, 9}
	was := slices.Clone(streams)
	if _, _, ok := Plan(small, p, streams[:4]); !ok {
		t.Fatal("Plan: false")
	}
	if _, _, ok := Plan(small, p, times(api.Hot, 40)); ok {
		t.Fatal("Plan of forty: true")
	}
	for stream := range api.Streams {
		Zones(small, p, stream, 20)
	}
	Keep(small, p)
	for n := range 20 {
		Fits(small, p, n, n)
		Moves(small, p, n)
	}
	if !slices.Equal(long, kept) || p.Heads != heads(3, 0, 5) || len(p.Points) != 6 {
		t.Errorf("the pool has changed: %v %v", p, long)
	}
	if !slices.Equal(streams, was) {
		t.Errorf("the streams have changed: %v", streams)
	}
}

// P12.4: what is answered shares nothing with what was handed in, nor one
// answer with the next: with places, without, and with false.
func TestAnswersAreNew(t *testing.T) {
	long := []int{8, 6, 0, 7, 0, 8, 5, 5}
	p := api.Pool{Points: long[:6], Heads: heads(3, 0, 5)}
	for _, streams := range [][]int{nil, {api.Log}, {api.Hot, api.Cold, api.Log, api.Log}, {3}, times(api.Hot, 40)} {
		first, q, ok := Plan(small, p, streams)
		then, places := own(q), slices.Clone(first)
		for i := range q.Points {
			q.Points[i] = -5
		}
		_ = append(q.Points, -6)
		for i := range first {
			first[i] = api.At{Zone: -7}
		}
		if !slices.Equal(long, []int{8, 6, 0, 7, 0, 8, 5, 5}) {
			t.Fatalf("Plan(%v): what was handed in is shared: %v", streams, long)
		}
		l, r, again := Plan(small, p, streams)
		if again != ok || !slices.Equal(l, places) || !same(r, then) {
			t.Errorf("Plan(%v) anew: %v %v %v, want %v %v %v", streams, l, r, again, places, then, ok)
		}
	}
}

// P12.1: a stream that there isn't has no place, nor a head.
func TestWrongStreams(t *testing.T) {
	for _, stream := range []int{-1, api.Streams, math.MaxInt, math.MinInt} {
		for _, streams := range [][]int{{stream}, {api.Hot, stream}, {stream, api.Hot}} {
			p := unused(small)
			if l, q, ok := Plan(small, p, streams); ok || len(l) != 0 || !same(p, q) {
				t.Errorf("Plan(%v): %v %v %v", streams, l, q, ok)
			}
		}
	}
}

// P1: no call panics or goes on for ever, whatever it is given.
func TestWrongOnesEndWithoutPanic(t *testing.T) {
	numbers := []int{0, 1, -1, 2, 3, 7, 8, 4097, 1 << 40, math.MaxInt, math.MinInt}
	geoms := []api.Geom{
		{},
		small,
		{Conv: -1, Soft: -1, Seq: -1, Size: -1, Open: -1},
		{Conv: 3, Seq: -1},
		{Conv: math.MaxInt, Seq: math.MaxInt, Size: math.MaxInt},
		{Conv: math.MinInt, Seq: math.MinInt, Size: math.MinInt},
		{Seq: 2, Size: math.MaxInt},
		{Seq: 2, Size: 1},
		{Seq: 2},
	}
	for _, g := range geoms {
		for _, points := range [][]int{nil, {0}, {0, 0, 0, 0, 0, 0}, numbers} {
			for _, zone := range numbers {
				p := api.Pool{Points: points, Heads: heads(zone, 0, zone)}
				Plan(g, p, numbers)
				Plan(g, p, []int{api.Hot, api.Hot, api.Cold, api.Log})
				Keep(g, p)
				for _, n := range numbers {
					Zones(g, p, api.Hot, n)
					Zones(g, p, n, math.MaxInt)
					Fits(g, p, n, 1)
					Fits(g, p, 1, n)
					Moves(g, p, n)
				}
			}
		}
	}
}
