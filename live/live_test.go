package live

import (
	"math"
	"slices"
	"testing"

	"windrow/api"
)

// chance answers numbers that follow no simple pattern, the same in each run.
type chance uint64

func (c *chance) below(n int) int {
	*c = *c*6364136223846793005 + 1442695040888963407
	return int(uint64(*c) >> 32 % uint64(n))
}

// small is a right measure with the least zones.
var small = api.Geom{Conv: 2, Soft: 8, Seq: 6, Size: 8, Open: 3}

// measures are right measures, with the least and the most of all kinds.
func measures() []api.Geom {
	return []api.Geom{
		small,
		{Conv: 2, Soft: 8, Seq: 6, Size: 9, Open: 3},
		{Conv: 3, Soft: 40, Seq: 7, Size: 16, Open: 9},
		{Conv: 58, Soft: 1 << 16, Seq: 6, Size: 8, Open: 3},
		{Conv: 2, Soft: 500, Seq: 62, Size: api.MaxSize, Open: 3},
	}
}

// wrongPlaces are numbers that are no place's.
func wrongPlaces(g api.Geom) []int {
	n := g.Seq * g.Size
	return []int{0, -1, -g.Size, -n, n + 1, n + 2, n + g.Size, 2 * n, 1 << 32, math.MaxInt, math.MinInt}
}

// wrongZones are numbers that are no sequential zone's.
func wrongZones(g api.Geom) []int {
	n := g.Conv + g.Seq
	return []int{0, 1, g.Conv - 1, n, n + 1, 2 * n, -1, -g.Conv, 1 << 32, math.MaxInt, math.MinInt}
}

// sectors are all sectors of sequential zones, in the order of their numbers.
func sectors(g api.Geom) []api.At {
	var l []api.At
	for zone := g.Conv; zone < g.Conv+g.Seq; zone++ {
		for off := range g.Size {
			l = append(l, api.At{Zone: zone, Off: off})
		}
	}
	return l
}

// expect holds that just these places of l are live, with these blocks.
func expect(t *testing.T, l *Live, g api.Geom, want map[int]int) {
	t.Helper()
	zones := make([][]api.At, g.Conv+g.Seq)
	for i, a := range sectors(g) {
		block, ok := want[i+1]
		if ok {
			zones[a.Zone] = append(zones[a.Zone], a)
		}
		if got, is := l.Block(a); got != block || is != ok {
			t.Fatalf("Block(%v): %d %v, want %d %v", a, got, is, block, ok)
		}
	}
	sum := 0
	for zone, live := range zones {
		if got := l.Zone(zone); !slices.Equal(got, live) {
			t.Fatalf("Zone(%d): %v, want %v", zone, got, live)
		}
		if got := l.Count(zone); got != len(live) {
			t.Fatalf("Count(%d): %d, want %d", zone, got, len(live))
		}
		sum += l.Count(zone)
	}
	if sum != len(want) {
		t.Fatalf("the counts sum up to %d, want %d", sum, len(want))
	}
}

// added answers live sectors of places, each with a block of its own, and what
// is to be expected of them.
func added(g api.Geom, places ...int) (*Live, map[int]int) {
	l, want := New(g), map[int]int{}
	for i, place := range places {
		l.Add(place, 100+i)
		want[place] = 100 + i
	}
	return l, want
}

// P10.1: the chapter's example.
func TestExample(t *testing.T) {
	for _, g := range measures() {
		l := New(g)
		if !l.Add(1, 7) {
			t.Error("Add")
		}
		if l.Count(g.Conv) != 1 {
			t.Errorf("Count: %d", l.Count(g.Conv))
		}
		if block, ok := l.Block(api.At{Zone: g.Conv}); block != 7 || !ok {
			t.Errorf("Block: %d %v", block, ok)
		}
	}
}

// P10.1: in a new one nothing is live.
func TestNew(t *testing.T) {
	for _, g := range measures() {
		expect(t, New(g), g, nil)
	}
}

// P10.1: each place can be added, and stands for the sector of its number.
func TestAddEachPlace(t *testing.T) {
	for _, g := range measures() {
		l := New(g)
		counts := map[int]int{}
		for i, a := range sectors(g) {
			if _, ok := l.Block(a); ok {
				t.Fatalf("%v is live ahead", a)
			}
			if !l.Add(i+1, 3*i) {
				t.Fatalf("Add(%d)", i+1)
			}
			counts[a.Zone]++
			if block, ok := l.Block(a); block != 3*i || !ok {
				t.Fatalf("Block(%v): %d %v, want %d", a, block, ok, 3*i)
			}
			if got := l.Count(a.Zone); got != counts[a.Zone] {
				t.Fatalf("Count(%d): %d, want %d", a.Zone, got, counts[a.Zone])
			}
		}
		want := map[int]int{}
		for i := range sectors(g) {
			want[i+1] = 3 * i
		}
		expect(t, l, g, want)
	}
}

// P10.1: what is no place isn't added, nor dropped; nothing is done.
func TestNoSuchPlace(t *testing.T) {
	for _, g := range measures() {
		l, want := added(g, 1, g.Size, g.Seq*g.Size)
		for _, place := range wrongPlaces(g) {
			if l.Add(place, 1) {
				t.Errorf("Add(%d)", place)
			}
			if l.Drop(place) {
				t.Errorf("Drop(%d)", place)
			}
		}
		expect(t, l, g, want)
	}
}

// P10.1: what is live isn't added once more, be it with the same block or with
// another one; the block stays.
func TestAddTwice(t *testing.T) {
	for _, g := range measures() {
		l, want := added(g, 1, 2, g.Size+1, g.Seq*g.Size)
		for place, block := range want {
			for _, other := range []int{block, block + 1, 0} {
				if l.Add(place, other) {
					t.Errorf("Add(%d, %d)", place, other)
				}
			}
		}
		expect(t, l, g, want)
	}
}

// P10.1: block 0 stands at a place like any other; a block may stand at
// several places, for what is told goes by places.
func TestAnyBlock(t *testing.T) {
	l := New(small)
	for place, block := range map[int]int{1: 0, 2: 0, 3: 9, 11: 9, 48: api.MaxBlock - 1} {
		if !l.Add(place, block) {
			t.Errorf("Add(%d, %d)", place, block)
		}
	}
	want := map[int]int{1: 0, 2: 0, 3: 9, 11: 9, 48: api.MaxBlock - 1}
	expect(t, l, small, want)
	if l.Add(1, 5) || !l.Drop(1) {
		t.Error("block 0 isn't live")
	}
	delete(want, 1)
	expect(t, l, small, want)
}

// P10.1: what is dropped isn't live any more; it can't be dropped twice, and
// what never was live can't be dropped.
func TestDrop(t *testing.T) {
	for _, g := range measures() {
		last := g.Seq * g.Size
		l, want := added(g, 1, 2, g.Size, g.Size+1, last-1, last)
		for _, place := range []int{3, g.Size - 1, g.Size + 2, last - 2} {
			if l.Drop(place) {
				t.Errorf("Drop(%d), which isn't live", place)
			}
		}
		expect(t, l, g, want)
		for _, place := range []int{2, last, g.Size, 1, last - 1, g.Size + 1} {
			if !l.Drop(place) {
				t.Errorf("Drop(%d)", place)
			}
			delete(want, place)
			expect(t, l, g, want)
			if l.Drop(place) {
				t.Errorf("Drop(%d) twice", place)
			}
			expect(t, l, g, want)
		}
	}
}

// P10.3: what is dropped can be added again, with whatever block.
func TestAddAgain(t *testing.T) {
	l, want := added(small, 9, 10)
	for round := range 5 {
		if !l.Drop(9) || !l.Add(9, round) || l.Add(9, 50) {
			t.Fatalf("round %d", round)
		}
		want[9] = round
		expect(t, l, small, want)
	}
}

// P10.1: only sectors of sequential zones that there are can be live.
func TestBlockOfNoPlace(t *testing.T) {
	for _, g := range measures() {
		l := New(g)
		for i := range sectors(g) {
			l.Add(i+1, 5)
		}
		for _, zone := range wrongZones(g) {
			for _, off := range []int{0, 1, g.Size - 1, g.Size, -1, math.MaxInt} {
				a := api.At{Zone: zone, Off: off}
				if block, ok := l.Block(a); block != 0 || ok {
					t.Errorf("Block(%v): %d %v", a, block, ok)
				}
			}
		}
		for _, off := range []int{-1, -g.Size, g.Size, g.Size + 1, math.MaxInt, math.MinInt} {
			a := api.At{Zone: g.Conv, Off: off}
			if block, ok := l.Block(a); block != 0 || ok {
				t.Errorf("Block(%v): %d %v", a, block, ok)
			}
		}
	}
}

// P10.1: conventional zones, and such as there are none, have nothing live.
func TestNoSuchZone(t *testing.T) {
	for _, g := range measures() {
		l := New(g)
		for i := range sectors(g) {
			l.Add(i+1, 5)
		}
		for _, zone := range wrongZones(g) {
			if got := l.Count(zone); got != 0 {
				t.Errorf("Count(%d): %d", zone, got)
			}
			if got := l.Zone(zone); len(got) != 0 {
				t.Errorf("Zone(%d): %v", zone, got)
			}
		}
	}
}

// P10.1: a zone's sectors rise, in whatever order they were added; one zone
// has nothing of the next.
func TestZoneRises(t *testing.T) {
	c := chance(10)
	for _, g := range measures() {
		for _, part := range []int{1, 2, 5} {
			n := g.Seq * g.Size
			places := make([]int, n)
			for i := range places {
				places[i] = i + 1
			}
			for i := range places {
				j := i + c.below(n-i)
				places[i], places[j] = places[j], places[i]
			}
			l, want := added(g, places[:n/part]...)
			expect(t, l, g, want)
		}
	}
}

// P10.1: what tells changes nothing.
func TestTellingChangesNothing(t *testing.T) {
	l, want := added(small, 5, 6, 20)
	for range 2 {
		for zone := -1; zone < 10; zone++ {
			l.Count(zone)
			l.Zone(zone)
			for off := -1; off < 10; off++ {
				l.Block(api.At{Zone: zone, Off: off})
			}
		}
		expect(t, l, small, want)
	}
}

// P10.2: blocks stand where their places are; those that stand nowhere don't
// count.
func TestOf(t *testing.T) {
	for _, g := range measures() {
		last := g.Seq * g.Size
		for _, places := range [][]int{
			nil,
			{},
			{0},
			{0, 0, 0, 0},
			{1},
			{0, last, 0, 1, 0},
			{last, last - 1, g.Size, g.Size + 1, 1, 2},
		} {
			want := map[int]int{}
			for block, place := range places {
				if place != 0 {
					want[place] = block
				}
			}
			l, ok := Of(g, places)
			if !ok {
				t.Fatalf("Of(%v)", places)
			}
			expect(t, l, g, want)
		}
	}
}

// P10.2: as many blocks as there are places; it is asked of places alone how
// many there may be.
func TestOfAllPlaces(t *testing.T) {
	for _, g := range measures() {
		n := g.Seq * g.Size
		places, want := make([]int, 2*n), map[int]int{}
		for i := range n {
			places[2*i] = n - i
			want[n-i] = 2 * i
		}
		l, ok := Of(g, places)
		if !ok {
			t.Fatal(g)
		}
		expect(t, l, g, want)
	}
}

// P10.2: what Of answers goes on as any other.
func TestOfGoesOn(t *testing.T) {
	l, ok := Of(small, []int{0, 5, 0, 48})
	if !ok {
		t.Fatal("Of")
	}
	if l.Add(5, 9) || !l.Add(6, 9) || !l.Drop(48) || l.Drop(48) {
		t.Error("Add, Drop")
	}
	expect(t, l, small, map[int]int{5: 1, 6: 9})
}

// P10.2: one that is no place, wherever it stands, makes it nothing.
func TestOfNoPlace(t *testing.T) {
	for _, g := range measures() {
		for _, place := range wrongPlaces(g) {
			if place == 0 {
				continue
			}
			for i := range 4 {
				places := []int{1, 0, 2, 3}
				places[i] = place
				if l, ok := Of(g, places); l != nil || ok {
					t.Errorf("Of(%v): %v %v", places, l, ok)
				}
			}
		}
	}
}

// P10.2: two that are one, wherever they stand, make it nothing.
func TestOfTwice(t *testing.T) {
	for _, g := range measures() {
		for i := range 5 {
			for j := range i {
				places := []int{g.Size, 0, g.Size + 1, 1, 2}
				places[i], places[j] = g.Seq*g.Size, g.Seq*g.Size
				if l, ok := Of(g, places); l != nil || ok {
					t.Errorf("Of(%v): %v %v", places, l, ok)
				}
			}
		}
	}
}

// P10.1, P10.2, P10.3: long walks, held against a plain map.
func TestWalk(t *testing.T) {
	c := chance(103)
	for _, g := range measures()[:3] {
		n := g.Seq * g.Size
		l, want := New(g), map[int]int{}
		for range 4000 {
			place, block := c.below(n+4)-1, c.below(9)
			_, is := want[place]
			there := place >= 1 && place <= n
			if c.below(2) == 0 {
				if got := l.Add(place, block); got != (there && !is) {
					t.Fatalf("Add(%d): %v", place, got)
				}
				if there && !is {
					want[place] = block
				}
			} else {
				if got := l.Drop(place); got != is {
					t.Fatalf("Drop(%d): %v", place, got)
				}
				delete(want, place)
			}
			expect(t, l, g, want)
		}
	}
}

// P10.2: places by chance, some of them twice or none: held against what is
// found by holding each against each.
func TestOfWalk(t *testing.T) {
	c := chance(102)
	oks := 0
	for range 4000 {
		places, right := make([]int, c.below(7)), true
		want := map[int]int{}
		for i := range places {
			places[i] = c.below(2) * (c.below(50) - 1)
			if places[i] == 0 {
				continue
			}
			right = right && places[i] > 0 && places[i] <= 48 && !slices.Contains(places[:i], places[i])
			want[places[i]] = i
		}
		l, ok := Of(small, places)
		if ok != right || !ok && l != nil {
			t.Fatalf("Of(%v): %v %v", places, l, ok)
		}
		if ok {
			oks++
			expect(t, l, small, want)
		}
	}
	if oks < 1000 || oks > 3900 {
		t.Errorf("only one side was tried: %d", oks)
	}
}

// P10.4: what is answered is new: changing it changes nothing that is live,
// nor what is answered next; and it stays, whatever is done then.
func TestAnswersAreNew(t *testing.T) {
	l, want := added(small, 1, 2, 3, 8)
	got := l.Zone(2)
	kept := l.Zone(2)
	same := slices.Clone(kept)
	clear(got)
	_ = append(got[:1], api.At{Zone: 9, Off: 9})
	expect(t, l, small, want)
	l.Drop(2)
	l.Add(5, 1)
	l.Zone(2)
	if !slices.Equal(kept, same) {
		t.Errorf("what was answered has changed: %v", kept)
	}
}

// P10.4: what is handed in stays, and isn't kept; one's sectors aren't
// another's.
func TestOfKeepsNothing(t *testing.T) {
	places := []int{4, 0, 12}
	l, _ := Of(small, places)
	m, _ := Of(small, places)
	if !slices.Equal(places, []int{4, 0, 12}) {
		t.Errorf("what was handed in has changed: %v", places)
	}
	l.Drop(4)
	l.Add(5, 0)
	clear(places)
	expect(t, l, small, map[int]int{5: 0, 12: 2})
	expect(t, m, small, map[int]int{4: 0, 12: 2})
	a, b := New(small), New(small)
	a.Add(1, 1)
	expect(t, b, small, nil)
	wrong := []int{4, 4}
	Of(small, wrong)
	if !slices.Equal(wrong, []int{4, 4}) {
		t.Errorf("what was handed in has changed: %v", wrong)
	}
}

// P1: no call panics or goes on for ever, whatever it is given.
func TestWrongOnesEndWithoutPanic(t *testing.T) {
	numbers := []int{0, 1, -1, 7, 1 << 40, math.MaxInt, math.MinInt}
	for _, g := range []api.Geom{
		{},
		{Conv: -1, Soft: -1, Seq: -1, Size: -1, Open: -1},
		{Seq: 1, Size: math.MaxInt},
		{Seq: math.MinInt, Size: -1},
		{Conv: 2, Soft: math.MaxInt, Seq: 6, Size: 8, Open: 3},
		{Conv: 2, Soft: 8, Seq: math.MaxInt, Size: math.MaxInt, Open: 3},
		{Conv: math.MaxInt, Soft: 8, Seq: 6, Size: 8, Open: 3},
		small,
	} {
		Of(g, numbers)
		Of(g, []int{0, 1, 2})
		l := New(g)
		for _, a := range numbers {
			for _, b := range numbers {
				l.Add(a, b)
				l.Block(api.At{Zone: a, Off: b})
			}
			l.Count(a)
			l.Zone(a)
			l.Drop(a)
		}
	}
}
