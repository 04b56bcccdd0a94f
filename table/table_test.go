package table

import (
	"math"
	"slices"
	"testing"

	"windrow/api"
)

// chance answers numbers that follow no simple pattern, the same in each run.
type chance uint64

func (c *chance) below(n int) int {
	*c = *c*6364136223846793005 + 1442695040888963407
	return int(uint64(*c) >> 32 % uint64(n))
}

// sizes are numbers of blocks: the edges, and those of leaves.
func sizes() []int {
	return []int{0, 1, 2, 9, 10, 11, 12, 19, 20, 21, 23, 99, 100, 101, 4089, 4090, 4091, 4095, api.MaxBlock}
}

// noBlocks are numbers that are no block's of a table of so many.
func noBlocks(blocks int) []int {
	return []int{-1, -2, -10, -11, blocks, blocks + 1, blocks + 9, blocks + 10, api.MaxBlock, api.MaxBlock + 10, 1 << 32, math.MaxInt, math.MinInt}
}

// leavesOf tells how many leaves so many blocks stand in.
func leavesOf(blocks int) int {
	n := 0
	for first := 0; first < blocks; first += 10 {
		n++
	}
	return n
}

// filled answers a table of so many blocks, each at a place of its own, and
// these places.
func filled(blocks int) (*Table, []int) {
	t, places := New(blocks), make([]int, blocks)
	for block := range blocks {
		places[block] = 7 + 3*block
		t.Set(block, places[block])
	}
	return t, places
}

// refused holds that l makes no table of so many blocks.
func refused(t *testing.T, what string, blocks int, l []api.Leaf, want api.Errno) {
	t.Helper()
	if x, e := Of(blocks, l); x != nil || e != want {
		t.Errorf("%s: %d blocks: %v %d, want %d", what, blocks, x, e, want)
	}
}

// expect holds that x's blocks stand at these places, and that these of its
// leaves are dirty.
func expect(t *testing.T, x *Table, places, dirty []int) {
	t.Helper()
	if got := x.Places(); !slices.Equal(got, places) {
		t.Fatalf("Places: %v, want %v", got, places)
	}
	if got := x.Dirty(); !slices.Equal(got, dirty) {
		t.Fatalf("Dirty: %v, want %v", got, dirty)
	}
	count := 0
	for block, place := range places {
		if got := x.Get(block); got != place {
			t.Fatalf("Get(%d): %d, want %d", block, got, place)
		}
		if place != 0 {
			count++
		}
	}
	if got := x.Count(); got != count {
		t.Fatalf("Count: %d, want %d", got, count)
	}
}

// P9.1: in a new table all blocks stand nowhere, and no leaf is dirty.
func TestNew(t *testing.T) {
	for _, blocks := range sizes() {
		expect(t, New(blocks), make([]int, blocks), nil)
	}
}

// P9.1, P9.2: the chapter's example.
func TestExample(t *testing.T) {
	x := New(12)
	if got := x.Set(11, 5); got != 0 {
		t.Errorf("Set: %d", got)
	}
	if got := x.Dirty(); !slices.Equal(got, []int{1}) {
		t.Errorf("Dirty: %v", got)
	}
	want := []api.Leaf{{Gen: 3}, {Gen: 3, Index: 1, Places: [api.PerPage]int{0, 5}}}
	if got := x.Leaves(3); !slices.Equal(got, want) {
		t.Errorf("Leaves: %v", got)
	}
}

// P9.1: each block stands where it was set, the last time; Set tells where it
// stood ahead; the others stay.
func TestSetIsGot(t *testing.T) {
	for _, blocks := range sizes() {
		x, places := filled(blocks)
		expect(t, x, places, all(blocks))
		for block := range blocks {
			for _, place := range []int{1<<32 - 1, 0, 1, 1, 0, 0, math.MaxInt} {
				if got := x.Set(block, place); got != places[block] {
					t.Fatalf("Set(%d, %d): %d, want %d", block, place, got, places[block])
				}
				places[block] = place
				if got := x.Get(block); got != place {
					t.Fatalf("Get(%d): %d, want %d", block, got, place)
				}
			}
		}
		expect(t, x, places, all(blocks))
	}
}

// all answers the numbers of all leaves of so many blocks.
func all(blocks int) []int {
	var l []int
	for n := range leavesOf(blocks) {
		l = append(l, n)
	}
	return l
}

// P9.1: of no such block Get tells 0, and Set does nothing, also where the
// block's leaf would have room.
func TestNoSuchBlock(t *testing.T) {
	for _, blocks := range sizes() {
		x, places := filled(blocks)
		x.Clean()
		for _, block := range noBlocks(blocks) {
			if got := x.Get(block); got != 0 {
				t.Errorf("%d blocks: Get(%d): %d", blocks, block, got)
			}
			for range 2 {
				if got := x.Set(block, 5); got != 0 {
					t.Errorf("%d blocks: Set(%d): %d", blocks, block, got)
				}
			}
			if got := x.Get(block); got != 0 {
				t.Errorf("%d blocks: Get(%d): %d", blocks, block, got)
			}
		}
		expect(t, x, places, nil)
		if y, e := Of(blocks, x.Leaves(1)); e != api.OK || !slices.Equal(y.Places(), places) {
			t.Errorf("%d blocks: Leaves are none of a table: %d", blocks, e)
		}
	}
}

// P9.1: a leaf is dirty just if a place in it was set to another one, since
// the leaves were cleaned; also if it was set back.
func TestDirty(t *testing.T) {
	x := New(35)
	step := func(block, place int, want ...int) {
		t.Helper()
		x.Set(block, place)
		if got := x.Dirty(); !slices.Equal(got, want) {
			t.Errorf("Dirty behind Set(%d, %d): %v, want %v", block, place, got, want)
		}
	}
	step(0, 0)
	step(34, 0)
	step(34, 9, 3)
	step(9, 8, 0, 3)
	step(10, 0, 0, 3)
	step(10, 7, 0, 1, 3)
	x.Clean()
	step(34, 9)
	step(9, 8)
	step(9, 9, 0)
	step(9, 8, 0)
	step(9, 8, 0)
	step(20, 1, 0, 2)
	step(20, 0, 0, 2)
	x.Clean()
	step(20, 0)
	step(35, 4)
	step(10, 0, 1)
	x.Clean()
	x.Clean()
	expect(t, x, []int{9: 8, 34: 9}, nil)
}

// P9.1: each block is of the leaf that its number tells.
func TestDirtyOfEachBlock(t *testing.T) {
	x := New(api.MaxBlock)
	for block := range api.MaxBlock {
		x.Set(block, 1)
		if got := x.Dirty(); !slices.Equal(got, []int{block / 10}) {
			t.Fatalf("Dirty behind Set(%d): %v", block, got)
		}
		x.Clean()
	}
}

// P9.1: what tells changes nothing.
func TestTellingChangesNothing(t *testing.T) {
	x, places := filled(25)
	x.Clean()
	x.Set(15, 0)
	places[15] = 0
	for range 2 {
		x.Leaves(9)
		x.Places()
		x.Dirty()
		x.Count()
		x.Get(3)
		expect(t, x, places, []int{1})
	}
}

// P9.2: the leaves stand in order, each of the Gen that was asked for; behind
// the last block are noughts.
func TestLeaves(t *testing.T) {
	for _, blocks := range sizes() {
		x, places := filled(blocks)
		for _, gen := range []int{1, 2, 0, -1, api.MaxNum, math.MaxInt, math.MinInt} {
			l := x.Leaves(gen)
			if len(l) != leavesOf(blocks) {
				t.Fatalf("%d blocks: %d leaves", blocks, len(l))
			}
			for n, one := range l {
				var want api.Leaf
				want.Gen, want.Index = gen, n
				for i := range want.Places {
					if block := n*10 + i; block < blocks {
						want.Places[i] = places[block]
					}
				}
				if one != want {
					t.Fatalf("%d blocks: %v, want %v", blocks, one, want)
				}
			}
		}
	}
}

// P9.2, P9.3: of the leaves of a table, in whatever order, comes the same
// table, nothing dirty.
func TestOfLeaves(t *testing.T) {
	c := chance(9)
	for _, blocks := range sizes() {
		x, places := filled(blocks)
		for round := range 6 {
			l := x.Leaves(5)
			switch round {
			case 0:
			case 1:
				slices.Reverse(l)
			default:
				for i := range l {
					j := i + c.below(len(l)-i)
					l[i], l[j] = l[j], l[i]
				}
			}
			y, e := Of(blocks, l)
			if e != api.OK {
				t.Fatalf("%d blocks: %d", blocks, e)
			}
			expect(t, y, places, nil)
			if !slices.Equal(y.Leaves(5), x.Leaves(5)) {
				t.Fatalf("%d blocks: other leaves", blocks)
			}
			if blocks == 0 {
				continue
			}
			y.Set(blocks-1, places[blocks-1])
			expect(t, y, places, nil)
			y.Set(blocks-1, 1)
			if got := y.Dirty(); !slices.Equal(got, []int{leavesOf(blocks) - 1}) {
				t.Fatalf("%d blocks: dirty %v", blocks, got)
			}
		}
	}
}

// P9.2: nothing is said of Gen, nor of how great a place is: any will do.
func TestOfAnyGen(t *testing.T) {
	l := []api.Leaf{
		{Gen: -7, Index: 1, Places: [api.PerPage]int{math.MaxInt, 1 << 32}},
		{Gen: math.MaxInt, Index: 0, Places: [api.PerPage]int{9: 1}},
	}
	x, e := Of(12, l)
	if e != api.OK {
		t.Fatal(e)
	}
	expect(t, x, []int{9: 1, 10: math.MaxInt, 11: 1 << 32}, nil)
}

// P9.2: a table has from 0 to MaxBlock blocks; that is told first.
func TestOfWrongBlocks(t *testing.T) {
	x, _ := filled(23)
	short := x.Leaves(1)[1:]
	most := New(api.MaxBlock).Leaves(1)
	for _, blocks := range []int{-1, -9, -10, -11, api.MaxBlock + 1, api.MaxBlock + 4, api.MaxBlock + 5, 1 << 32, math.MaxInt, math.MaxInt - 8, math.MinInt} {
		refused(t, "none", blocks, nil, api.ErrArg)
		refused(t, "short", blocks, short, api.ErrArg)
		refused(t, "most", blocks, most, api.ErrArg)
	}
}

// P9.2: one leaf less, one more, or one of them twice.
func TestOfOtherLeaves(t *testing.T) {
	for _, blocks := range sizes() {
		x, _ := filled(blocks)
		l := x.Leaves(1)
		next := api.Leaf{Gen: 1, Index: len(l)}
		refused(t, "one more", blocks, append(slices.Clone(l), next), api.ErrBytes)
		for _, n := range []int{0, len(l) / 2, len(l) - 1} {
			if n < 0 || n >= len(l) {
				continue
			}
			less := slices.Delete(slices.Clone(l), n, n+1)
			refused(t, "one less", blocks, less, api.ErrBytes)
			refused(t, "one twice, and all", blocks, append(slices.Clone(l), l[n]), api.ErrBytes)
			if len(less) > 0 {
				refused(t, "one twice", blocks, append(less, less[0]), api.ErrBytes)
			}
			for _, index := range []int{-1, -10, len(l), len(l) + 1, api.MaxBlock, 1 << 60, math.MaxInt, math.MaxInt / 10, math.MinInt} {
				other := slices.Clone(l)
				other[n].Index = index
				refused(t, "another index", blocks, other, api.ErrBytes)
				other[n].Places = [api.PerPage]int{}
				refused(t, "another index, of noughts", blocks, other, api.ErrBytes)
			}
		}
	}
	refused(t, "no leaf", 1, nil, api.ErrBytes)
	refused(t, "no leaf", api.MaxBlock, []api.Leaf{}, api.ErrBytes)
	refused(t, "a leaf", 0, []api.Leaf{{}}, api.ErrBytes)
}

// P9.2: leaves of tables of so many blocks more, or less, that there are as
// many leaves are those of a table just if nothing stands behind its end.
func TestOfOtherBlocks(t *testing.T) {
	for blocks := 1; blocks <= 40; blocks++ {
		x, places := filled(blocks)
		for other := range 50 {
			y, e := Of(other, x.Leaves(1))
			if leavesOf(other) != leavesOf(blocks) || other < blocks {
				if y != nil || e != api.ErrBytes {
					t.Errorf("%d of %d blocks: %v %d", other, blocks, y, e)
				}
				continue
			}
			if e != api.OK {
				t.Fatalf("%d of %d blocks: %d", other, blocks, e)
			}
			expect(t, y, append(slices.Clone(places), make([]int, other-blocks)...), nil)
		}
	}
}

// P9.2: a place below 0, wherever, and any behind the last block.
func TestOfWrongPlaces(t *testing.T) {
	for _, blocks := range []int{1, 10, 11, 23, 40, api.MaxBlock} {
		x, _ := filled(blocks)
		l := x.Leaves(1)
		for n := range l {
			for i := range api.PerPage {
				wrong := []int{-1, math.MinInt, -1 << 32}
				if n*10+i >= blocks {
					wrong = append(wrong, 1, 1<<32, math.MaxInt)
				}
				for _, place := range wrong {
					other := slices.Clone(l)
					other[n].Places[i] = place
					refused(t, "a wrong place", blocks, other, api.ErrBytes)
				}
			}
		}
	}
}

// plain is a table of the plainest kind.
type plain struct {
	places []int
	dirty  map[int]bool
}

func (p *plain) set(block, place int) int {
	if block < 0 || block >= len(p.places) {
		return 0
	}
	was := p.places[block]
	p.places[block] = place
	if place != was {
		p.dirty[block/10] = true
	}
	return was
}

func (p *plain) dirties() []int {
	var l []int
	for n := range len(p.places) {
		if p.dirty[n] {
			l = append(l, n)
		}
	}
	return l
}

// P9.1, P9.2, P9.3: long walks, held against the plain table.
func TestWalk(t *testing.T) {
	c := chance(91)
	for _, blocks := range []int{0, 1, 7, 10, 23, 110, 409} {
		x, p := New(blocks), plain{make([]int, blocks), map[int]bool{}}
		for range 4000 {
			switch c.below(40) {
			case 0:
				x.Clean()
				p.dirty = map[int]bool{}
			case 1:
				y, e := Of(blocks, x.Leaves(c.below(9)))
				if e != api.OK {
					t.Fatal(e)
				}
				x, p.dirty = y, map[int]bool{}
			default:
				block, place := c.below(blocks+4)-2, c.below(3)*c.below(5)
				if got, want := x.Set(block, place), p.set(block, place); got != want {
					t.Fatalf("Set(%d, %d): %d, want %d", block, place, got, want)
				}
			}
			expect(t, x, p.places, p.dirties())
		}
	}
}

// P9.4: what is answered is new: changing it changes no table, nor what is
// answered next.
func TestAnswersAreNew(t *testing.T) {
	x, places := filled(25)
	p, d, l := x.Places(), x.Dirty(), x.Leaves(2)
	for i := range p {
		p[i] = -1
	}
	for i := range d {
		d[i] = -1
	}
	for i := range l {
		l[i] = api.Leaf{Gen: -1, Index: -1}
	}
	_, _, _ = append(p, 1), append(d, 1), append(l, api.Leaf{})
	expect(t, x, places, []int{0, 1, 2})
	if l[0] == x.Leaves(2)[0] {
		t.Error("Leaves are shared")
	}
	kept := x.Places()
	leaves := x.Leaves(2)
	x.Set(3, 1)
	x.Clean()
	if !slices.Equal(kept, places) || leaves[0].Places[3] != places[3] {
		t.Error("what was answered has changed")
	}
}

// P9.4: a table doesn't share its leaves with what it was made of, and leaves
// it as it was; nor do two tables share any.
func TestOfKeepsNothing(t *testing.T) {
	x, places := filled(25)
	l := x.Leaves(2)
	slices.Reverse(l)
	same := slices.Clone(l)
	y, _ := Of(25, l)
	z, _ := Of(25, l)
	y.Set(0, 1000)
	y.Set(24, 0)
	if !slices.Equal(l, same) {
		t.Error("what was handed in has changed")
	}
	clear(l)
	expect(t, x, places, []int{0, 1, 2})
	expect(t, z, places, nil)
	places[0], places[24] = 1000, 0
	expect(t, y, places, []int{0, 2})
	a, b := New(5), New(5)
	a.Set(1, 1)
	expect(t, b, make([]int, 5), nil)
}

// P1: no call panics or goes on for ever, whatever it is given.
func TestWrongOnesEndWithoutPanic(t *testing.T) {
	wrong := []int{-1, -10, api.MaxBlock + 1, 1 << 40, math.MaxInt, math.MaxInt - 8, math.MinInt}
	for _, blocks := range wrong {
		x := New(blocks)
		for _, n := range append(wrong, 0, 1) {
			x.Get(n)
			x.Set(n, n)
			x.Leaves(n)
		}
		x.Count()
		x.Places()
		x.Dirty()
		x.Clean()
	}
	x := New(12)
	for _, place := range wrong {
		x.Set(3, place)
		x.Count()
		x.Leaves(1)
	}
}
