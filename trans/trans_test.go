package trans

import (
	"math"
	"slices"
	"testing"

	"windrow/api"
)

// chance answers numbers that follow no simple pattern, the same in each run.
type chance uint64

func (c *chance) below(n int) int {
	*c = *c*6364136223846793005 + 1442695040888963407
	return int(uint64(*c) >> 32 % uint64(n))
}

// put is a write of a block that isn't a Trim.
func put(block int, b byte) api.Write {
	return api.Write{Block: block, Data: api.Data{b, api.Block - 1: b}}
}

// trim is a Trim of a block.
func trim(block int) api.Write { return api.Write{Block: block, Trim: true} }

// with is a transaction in which those writes have been put.
func with(writes ...api.Write) api.Trans {
	t := api.Trans{Id: 7, Begin: 70}
	for _, w := range writes {
		t = Put(t, w)
	}
	return t
}

// holds holds that a transaction has those writes, in that order, and no others,
// and is still that of its handle.
func holds(t *testing.T, x api.Trans, want ...api.Write) {
	t.Helper()
	if x.Id != 7 || x.Begin != 70 || !slices.Equal(x.Writes, want) {
		t.Errorf("%v, want the handle 7, begun at 70, and %v", x, want)
	}
}

// finds holds that a transaction has a write.
func finds(t *testing.T, x api.Trans, want api.Write) {
	t.Helper()
	if w, ok := Find(x, want.Block); !ok || w != want {
		t.Errorf("Find of %d: %v %v, want %v", want.Block, w, ok, want)
	}
}

// lacks holds that a transaction has no write of a block.
func lacks(t *testing.T, x api.Trans, block int) {
	t.Helper()
	if w, ok := Find(x, block); ok || w != (api.Write{}) {
		t.Errorf("Find of %d: %v %v, want nothing", block, w, ok)
	}
}

// P18.1, P18.2: the chapter's example.
func TestExample(t *testing.T) {
	l, id, e := Begin(api.Ledger{}, 3)
	if id != 0 || e != api.OK {
		t.Fatalf("Begin: %d %d, want 0 0", id, e)
	}
	x, e := Get(l, 0)
	if e != api.OK || x.Begin != 3 {
		t.Fatalf("Get: %v %d", x, e)
	}
	l = Set(l, Put(x, put(5, 1)))
	x, _ = Get(l, 0)
	finds(t, x, put(5, 1))
}

// P18.1: writes stand by blocks, in whichever order they are put.
func TestPutOrder(t *testing.T) {
	holds(t, with())
	holds(t, with(put(5, 1)), put(5, 1))
	holds(t, with(put(5, 1), put(9, 2)), put(5, 1), put(9, 2))
	holds(t, with(put(9, 2), put(5, 1)), put(5, 1), put(9, 2))
	holds(t, with(put(5, 1), put(9, 2), put(7, 3)), put(5, 1), put(7, 3), put(9, 2))
	holds(t, with(put(api.MaxBlock-1, 2), put(0, 1)), put(0, 1), put(api.MaxBlock-1, 2))
}

// P18.1: a block's write goes in the place of the one it had, the first one, the
// last one, one in the midst; the others stay.
func TestPutAgain(t *testing.T) {
	x := with(put(2, 1), put(5, 2), put(9, 3))
	holds(t, Put(x, put(2, 8)), put(2, 8), put(5, 2), put(9, 3))
	holds(t, Put(x, put(5, 8)), put(2, 1), put(5, 8), put(9, 3))
	holds(t, Put(x, put(9, 8)), put(2, 1), put(5, 2), put(9, 8))
	holds(t, Put(x, put(9, 3)), put(2, 1), put(5, 2), put(9, 3))
	holds(t, Put(with(put(5, 1)), put(5, 2)), put(5, 2))
}

// P18.1: a Trim is a write as others are, and its Data is noughts, whatever data
// was handed in; what is written behind it is a write with its data again.
func TestPutTrim(t *testing.T) {
	dirty := put(5, 9)
	dirty.Trim = true
	x := with(dirty)
	holds(t, x, trim(5))
	finds(t, x, trim(5))
	x = with(put(2, 1), put(5, 2), put(9, 3))
	holds(t, Put(x, dirty), put(2, 1), trim(5), put(9, 3))
	holds(t, Put(Put(x, dirty), dirty), put(2, 1), trim(5), put(9, 3))
	holds(t, Put(Put(x, dirty), put(5, 4)), put(2, 1), put(5, 4), put(9, 3))
}

// P18.1: data of noughts alone is no Trim.
func TestPutNoughts(t *testing.T) {
	x := with(put(5, 0))
	holds(t, x, api.Write{Block: 5})
	if Puts(x) != 1 {
		t.Errorf("Puts: %d, want 1", Puts(x))
	}
}

// P18.1: what a transaction is besides its writes, Put leaves as it is.
func TestPutKeeps(t *testing.T) {
	for _, n := range []int{0, 1, 1 << 40, math.MaxInt} {
		x := Put(api.Trans{Id: n, Begin: n}, put(1, 1))
		if x.Id != n || x.Begin != n {
			t.Errorf("%d %d, want %d twice", x.Id, x.Begin, n)
		}
	}
}

// P18.1: Find of blocks that are ahead of all, behind all, and between.
func TestFind(t *testing.T) {
	x := with(put(2, 1), trim(5), put(9, 3))
	for _, w := range x.Writes {
		finds(t, x, w)
	}
	for _, block := range []int{math.MinInt, -2, 0, 1, 3, 4, 6, 8, 10, api.MaxBlock, math.MaxInt} {
		lacks(t, x, block)
		lacks(t, api.Trans{}, block)
		lacks(t, api.Trans{Writes: []api.Write{}}, block)
	}
}

// P18.1: Find tells block 0 from none.
func TestFindNought(t *testing.T) {
	lacks(t, with(put(1, 1)), 0)
	finds(t, with(put(0, 0)), api.Write{})
}

// P18.1: of Puts, blocks that are written count, and Trims don't.
func TestPuts(t *testing.T) {
	for want, x := range []api.Trans{with(trim(1), trim(2)), with(trim(1), put(2, 1), trim(3)), with(put(1, 1), trim(2), put(3, 1))} {
		if Puts(x) != want {
			t.Errorf("Puts of %v: %d, want %d", x, Puts(x), want)
		}
	}
	if Puts(api.Trans{}) != 0 || Puts(with(put(1, 1), put(2, 1), put(1, 2))) != 2 {
		t.Error("Puts of none, and of a block that is put twice")
	}
	if Puts(with(put(1, 1), trim(1))) != 0 || Puts(with(trim(1), put(1, 1))) != 1 {
		t.Error("Puts of a block that is written and trimmed")
	}
}

// P18.1: writes that were not made by Put are told as they are.
func TestWritesOfOthers(t *testing.T) {
	dirty := put(5, 9)
	dirty.Trim = true
	x := api.Trans{Id: 7, Begin: 70, Writes: []api.Write{put(-3, 1), dirty, put(1<<40, 2)}}
	for _, w := range x.Writes {
		finds(t, x, w)
	}
	holds(t, Put(x, trim(0)), put(-3, 1), trim(0), dirty, put(1<<40, 2))
}

// P18.4: Put leaves what is handed in as it was, also what stands behind it in
// its array, and what it answers has nothing of it.
func TestPutMemory(t *testing.T) {
	for _, block := range []int{1, 2, 3, 5, 7, 9, 10} {
		all := []api.Write{put(2, 1), put(5, 2), put(9, 3), put(11, 4), put(12, 5)}
		was := slices.Clone(all)
		x := api.Trans{Id: 7, Begin: 70, Writes: all[:3]}
		y := Put(x, put(block, 8))
		holds(t, x, was[:3]...)
		if !slices.Equal(all, was) {
			t.Fatalf("Put of %d wrote what was handed in: %v", block, all)
		}
		told := slices.Clone(y.Writes)
		spoil(&x)
		holds(t, y, told...)
		all = slices.Clone(was)
		y = Put(api.Trans{Writes: all[:3]}, put(block, 8))
		spoil(&y)
		if !slices.Equal(all, was) {
			t.Fatalf("what Put of %d answered has what was handed in: %v", block, all)
		}
	}
}

// P18.4: two Puts to one transaction know nothing of one another.
func TestPutTwice(t *testing.T) {
	x := with(put(2, 1), put(5, 2))
	y, z := Put(x, put(9, 3)), Put(x, put(8, 4))
	holds(t, x, put(2, 1), put(5, 2))
	holds(t, y, put(2, 1), put(5, 2), put(9, 3))
	holds(t, z, put(2, 1), put(5, 2), put(8, 4))
}

// spoil makes other writes of all that the array of a transaction has room for.
func spoil(x *api.Trans) {
	all := x.Writes[:cap(x.Writes)]
	for i := range all {
		all[i] = put(99, 99)
	}
}

// P1: Puts and Finds aren't slow: of the most blocks there may be.
func TestMost(t *testing.T) {
	var x api.Trans
	for i := range api.MaxBlock {
		// 4096 and an odd number: each block once.
		x = Put(x, put(i*2731%api.MaxBlock, byte(i)))
	}
	if len(x.Writes) != api.MaxBlock || Puts(x) != api.MaxBlock {
		t.Fatalf("%d writes, want %d", len(x.Writes), api.MaxBlock)
	}
	for i := range api.MaxBlock {
		finds(t, x, put(i*2731%api.MaxBlock, byte(i)))
	}
	lacks(t, x, -1)
	lacks(t, x, api.MaxBlock)
}
