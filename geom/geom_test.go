package geom

import (
	"math"
	"testing"

	"windrow/api"
)

// least is the smallest right measure: 4 blocks in one page.
func least() api.Geom { return api.Geom{Conv: 2, Soft: 4, Seq: 6, Size: 8, Open: 3} }

// greatest is the measure with the most sequential sectors.
func greatest() api.Geom {
	return api.Geom{Conv: 2, Soft: 1 << 16, Seq: 62, Size: 256, Open: math.MaxInt}
}

// measures answers right measures: each number of sequential zones with many
// sizes, those at the edges among them.
func measures() []api.Geom {
	l := []api.Geom{}
	for seq := 6; seq <= 62; seq++ {
		for _, size := range []int{8, 9, 10, 11, 13, 16, 20, 21, 22, 64, 127, 128, 129, 255, 256} {
			for _, conv := range []int{2, 64 - seq} {
				l = append(l, api.Geom{Conv: conv, Soft: 1 << 16, Seq: seq, Size: size, Open: 3})
			}
		}
	}
	return l
}

// blocksOf counts a measure's blocks: of each zone but five, one for each two
// sectors.
func blocksOf(g api.Geom) int {
	n := 0
	for range g.Seq - 5 {
		for left := g.Size; left >= 2; left -= 2 {
			n++
		}
	}
	return min(n, 4096)
}

// pagesOf counts the pages of blocks that are laid in them ten by ten.
func pagesOf(blocks int) int {
	n := 0
	for ; blocks > 0; blocks -= 10 {
		n++
	}
	return n
}

// far holds numbers that are beyond all zones, sectors and places, some of
// which sums and products wrap round.
func far() []int {
	return []int{1 << 16, 1 << 31, 1 << 32, 1 << 62, math.MaxInt - 64, math.MaxInt - 1, math.MaxInt, -1, -2, -8, -64, -1 << 32, math.MinInt + 64, math.MinInt + 1, math.MinInt}
}

// P3.1: the numbers of a measure.
func TestNumbersOfAMeasure(t *testing.T) {
	for _, c := range []struct {
		seq, size           int
		blocks, pages, most int
	}{
		{6, 8, 4, 1, 4},
		{6, 9, 4, 1, 4},
		{6, 16, 8, 1, 8},
		{6, 20, 10, 1, 10},
		{6, 21, 10, 1, 10},
		{6, 22, 11, 2, 11},
		{7, 8, 8, 1, 4},
		{8, 13, 18, 2, 6},
		{10, 8, 20, 2, 4},
		{6, 256, 128, 13, 128},
		{62, 8, 228, 23, 4},
		{37, 255, 4064, 407, 127},
		{36, 256, 3968, 397, 128},
		{37, 256, 4096, 410, 128},
		{38, 256, 4096, 410, 128},
		{62, 256, 4096, 410, 128},
	} {
		g := api.Geom{Conv: 2, Soft: 1 << 16, Seq: c.seq, Size: c.size, Open: 3}
		if got := Blocks(g); got != c.blocks {
			t.Errorf("Blocks of %d by %d: %d, want %d", c.seq, c.size, got, c.blocks)
		}
		if got := Pages(g); got != c.pages {
			t.Errorf("Pages of %d by %d: %d, want %d", c.seq, c.size, got, c.pages)
		}
		if got := Most(g); got != c.most {
			t.Errorf("Most of %d by %d: %d, want %d", c.seq, c.size, got, c.most)
		}
	}
}

// P3.1: the numbers of many measures, counted one by one.
func TestNumbersOfManyMeasures(t *testing.T) {
	for _, g := range measures() {
		blocks := blocksOf(g)
		if got := Blocks(g); got != blocks {
			t.Errorf("Blocks(%+v): %d, want %d", g, got, blocks)
		}
		if got, want := Pages(g), pagesOf(blocks); got != want {
			t.Errorf("Pages(%+v): %d, want %d", g, got, want)
		}
		if got := Most(g); 2*got > g.Size || 2*(got+1) <= g.Size {
			t.Errorf("Most(%+v): %d", g, got)
		}
		if got := Zones(g); got != g.Conv+g.Seq {
			t.Errorf("Zones(%+v): %d", g, got)
		}
	}
}

// P3.1: conventional zones and open ones count for no block.
func TestNumbersHangOnSequentialZonesAlone(t *testing.T) {
	g := api.Geom{Conv: 9, Soft: 777, Seq: 8, Size: 13, Open: 41}
	if Blocks(g) != 18 || Pages(g) != 2 || Most(g) != 6 || Zones(g) != 17 {
		t.Error(Blocks(g), Pages(g), Most(g), Zones(g))
	}
}

// P3.1: a measure is right up to the edges, and wrong beyond each.
func TestRightAtTheEdges(t *testing.T) {
	for _, c := range []struct {
		what string
		g    api.Geom
		want bool
	}{
		{"nothing", api.Geom{}, false},
		{"the example's", api.Geom{Conv: 2, Soft: 8, Seq: 6, Size: 16, Open: 3}, true},
		{"the least", least(), true},
		{"the greatest", greatest(), true},
		{"one conventional zone", api.Geom{Conv: 1, Soft: 4, Seq: 6, Size: 8, Open: 3}, false},
		{"no conventional zone", api.Geom{Conv: 0, Soft: 4, Seq: 6, Size: 8, Open: 3}, false},
		{"five sequential zones", api.Geom{Conv: 2, Soft: 4, Seq: 5, Size: 8, Open: 3}, false},
		{"four sequential zones", api.Geom{Conv: 2, Soft: 4, Seq: 4, Size: 8, Open: 3}, false},
		{"58 and 6 zones", api.Geom{Conv: 58, Soft: 4, Seq: 6, Size: 8, Open: 3}, true},
		{"59 and 6 zones", api.Geom{Conv: 59, Soft: 4, Seq: 6, Size: 8, Open: 3}, false},
		{"2 and 62 zones", api.Geom{Conv: 2, Soft: 413, Seq: 62, Size: 256, Open: 3}, true},
		{"2 and 63 zones", api.Geom{Conv: 2, Soft: 413, Seq: 63, Size: 256, Open: 3}, false},
		{"32 and 32 zones", api.Geom{Conv: 32, Soft: 14, Seq: 32, Size: 8, Open: 3}, true},
		{"33 and 32 zones", api.Geom{Conv: 33, Soft: 14, Seq: 32, Size: 8, Open: 3}, false},
		{"size 7", api.Geom{Conv: 2, Soft: 4, Seq: 6, Size: 7, Open: 3}, false},
		{"size 256", api.Geom{Conv: 2, Soft: 16, Seq: 6, Size: 256, Open: 3}, true},
		{"size 257", api.Geom{Conv: 2, Soft: 16, Seq: 6, Size: 257, Open: 3}, false},
		{"two open", api.Geom{Conv: 2, Soft: 4, Seq: 6, Size: 8, Open: 2}, false},
		{"none open", api.Geom{Conv: 2, Soft: 4, Seq: 6, Size: 8, Open: 0}, false},
		{"more open than zones", api.Geom{Conv: 2, Soft: 4, Seq: 6, Size: 8, Open: 1000}, true},
	} {
		if got := Right(c.g); got != c.want {
			t.Errorf("%s: %v", c.what, got)
		}
	}
}

// P3.1: a conventional zone has from pages and 3 to 2^16 sectors.
func TestRightSoft(t *testing.T) {
	for _, g := range measures() {
		low := pagesOf(blocksOf(g)) + 3
		for soft, want := range map[int]bool{0: false, low - 3: false, low - 1: false, low: true, low + 1: true, 1<<16 - 1: true, 1 << 16: true, 1<<16 + 1: false} {
			g.Soft = soft
			if Right(g) != want {
				t.Errorf("%+v: %v", g, !want)
			}
		}
	}
}

// P3.1: no number is so great or so small that it wraps round to a right one.
func TestRightOfFarNumbers(t *testing.T) {
	for _, n := range far() {
		for _, c := range []struct {
			what string
			lay  func(*api.Geom)
		}{
			{"Conv", func(g *api.Geom) { g.Conv = n }},
			{"Seq", func(g *api.Geom) { g.Seq = n }},
			{"Size", func(g *api.Geom) { g.Size = n }},
			{"Conv and Seq", func(g *api.Geom) { g.Conv, g.Seq = n, n }},
			{"Seq and Size", func(g *api.Geom) { g.Seq, g.Size = n, n }},
			{"all but Soft", func(g *api.Geom) { g.Conv, g.Seq, g.Size, g.Open = n, n, n, n }},
			{"all", func(g *api.Geom) { g.Conv, g.Soft, g.Seq, g.Size, g.Open = n, n, n, n, n }},
		} {
			g := greatest()
			c.lay(&g)
			if Right(g) {
				t.Errorf("%s: %d: right", c.what, n)
			}
		}
		if g := least(); n > 1<<16 || n < 0 {
			if g.Soft = n; Right(g) {
				t.Errorf("Soft: %d: right", n)
			}
		}
		if g := least(); n >= 3 {
			if g.Open = n; !Right(g) {
				t.Errorf("Open: %d: wrong", n)
			}
		} else if g.Open = n; Right(g) {
			t.Errorf("Open: %d: right", n)
		}
	}
	if Right(api.Geom{Conv: math.MaxInt, Soft: 413, Seq: math.MaxInt, Size: 8, Open: 3}) {
		t.Error("two numbers of zones whose sum is below 0: right")
	}
}

// P3.1: each zone has the sectors of its kind, and others have none.
func TestSectorsOfZones(t *testing.T) {
	for _, g := range append(measures(), least(), greatest()) {
		g.Soft = 1 << 15
		for zone := range g.Conv {
			if got := Sectors(g, zone); got != 1<<15 {
				t.Fatalf("Sectors(%+v, %d): %d", g, zone, got)
			}
		}
		for zone := g.Conv; zone < g.Conv+g.Seq; zone++ {
			if got := Sectors(g, zone); got != g.Size {
				t.Fatalf("Sectors(%+v, %d): %d", g, zone, got)
			}
		}
		for _, zone := range append(far(), g.Conv+g.Seq, g.Conv+g.Seq+1) {
			if got := Sectors(g, zone); got != 0 {
				t.Fatalf("Sectors(%+v, %d): %d, want 0", g, zone, got)
			}
		}
	}
}

// P3.2: places and their numbers, by hand.
func TestNumAndAtOfKnownPlaces(t *testing.T) {
	g := api.Geom{Conv: 2, Soft: 8, Seq: 6, Size: 16, Open: 3}
	for _, c := range []struct {
		a api.At
		n int
	}{
		{api.At{Zone: 2, Off: 0}, 1},
		{api.At{Zone: 2, Off: 3}, 4},
		{api.At{Zone: 2, Off: 15}, 16},
		{api.At{Zone: 3, Off: 0}, 17},
		{api.At{Zone: 3, Off: 15}, 32},
		{api.At{Zone: 7, Off: 0}, 81},
		{api.At{Zone: 7, Off: 15}, 96},
	} {
		if got := Num(g, c.a); got != c.n {
			t.Errorf("Num(%v): %d, want %d", c.a, got, c.n)
		}
		if got, ok := At(g, c.n); !ok || got != c.a {
			t.Errorf("At(%d): %v %v, want %v", c.n, got, ok, c.a)
		}
	}
}

// P3.2: what isn't a sector of a sequential zone has number 0.
func TestNumOfNoPlace(t *testing.T) {
	for _, g := range append(measures(), least(), greatest()) {
		for _, zone := range append(far(), 0, 1, g.Conv-1, g.Conv+g.Seq, g.Conv+g.Seq+1) {
			for _, off := range []int{0, 1, g.Size - 1} {
				if got := Num(g, api.At{Zone: zone, Off: off}); got != 0 {
					t.Fatalf("%+v: Num(%d, %d): %d, want 0", g, zone, off, got)
				}
			}
		}
		for _, off := range append(far(), g.Size, g.Size+1) {
			for _, zone := range []int{g.Conv, g.Conv + 1, g.Conv + g.Seq - 1} {
				if got := Num(g, api.At{Zone: zone, Off: off}); got != 0 {
					t.Fatalf("%+v: Num(%d, %d): %d, want 0", g, zone, off, got)
				}
			}
		}
	}
}

// P3.2: 0 is no place, nor is what lies below it or behind the last one.
func TestAtOfNoPlace(t *testing.T) {
	for _, g := range append(measures(), least(), greatest()) {
		last := g.Seq * g.Size
		if a, ok := At(g, last); !ok || a != (api.At{Zone: g.Conv + g.Seq - 1, Off: g.Size - 1}) {
			t.Fatalf("%+v: At(%d): %v %v", g, last, a, ok)
		}
		for _, n := range append(far(), 0, last+1, last+g.Size) {
			if a, ok := At(g, n); ok || a != (api.At{}) {
				t.Fatalf("%+v: At(%d): %v %v", g, n, a, ok)
			}
		}
	}
}

// P3.2, P3.3: numbers go from 1 on, zone by zone and sector by sector, so that
// unlike places have unlike ones; and At undoes Num.
func TestAtUndoesNum(t *testing.T) {
	for _, g := range append(measures(), least(), greatest()) {
		n := 0
		for zone := g.Conv; zone < g.Conv+g.Seq; zone++ {
			for off := range g.Size {
				n++
				a := api.At{Zone: zone, Off: off}
				if got := Num(g, a); got != n {
					t.Fatalf("%+v: Num(%v): %d, want %d", g, a, got, n)
				}
				if got, ok := At(g, n); !ok || got != a {
					t.Fatalf("%+v: At(%d): %v %v, want %v", g, n, got, ok, a)
				}
			}
		}
		if n != g.Seq*g.Size {
			t.Fatalf("%+v: %d places", g, n)
		}
	}
}

// P3.3: places are keys: the places of all numbers are as many as the numbers.
func TestPlacesAreKeys(t *testing.T) {
	for _, g := range []api.Geom{least(), {Conv: 3, Soft: 12, Seq: 8, Size: 13, Open: 3}, greatest()} {
		nums := map[api.At]int{}
		for n := 1; n <= g.Seq*g.Size; n++ {
			a, ok := At(g, n)
			if was := nums[a]; !ok || was != 0 {
				t.Fatalf("%+v: At(%d): %v %v, which is %d too", g, n, a, ok, was)
			}
			nums[a] = n
		}
	}
}

// P3.3: there is room for all pages and three sectors more, and for more than
// twice the blocks.
func TestRoomOfRightMeasures(t *testing.T) {
	for _, g := range append(measures(), least(), greatest()) {
		if 2*Blocks(g) >= g.Seq*Sectors(g, g.Conv) {
			t.Errorf("%+v: %d blocks", g, Blocks(g))
		}
		for soft := range 420 {
			if g.Soft = soft; Right(g) && Pages(g)+3 > Sectors(g, 0) {
				t.Errorf("%+v: %d pages", g, Pages(g))
			}
		}
	}
}

// The language's rule 4: no call panics, also of measures that aren't right.
func TestWrongMeasuresEndWithoutPanic(t *testing.T) {
	l := append(far(), 0, 1, 2, 3, 5, 6, 8)
	for _, conv := range l {
		for _, seq := range l {
			for _, size := range l {
				g := api.Geom{Conv: conv, Soft: seq, Seq: seq, Size: size, Open: conv}
				Right(g)
				Blocks(g)
				Pages(g)
				Most(g)
				Zones(g)
				for _, n := range l {
					Sectors(g, n)
					At(g, n)
					Num(g, api.At{Zone: n, Off: n})
				}
			}
		}
	}
}
