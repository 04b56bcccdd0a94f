package roll

import (
	"slices"
	"testing"

	"windrow/api"
	"windrow/dev"
	"windrow/geom"
	"windrow/rec"
	"windrow/scan"
)

// small is a right measure with the least zones: 2 to 7 are sequential.
var small = api.Geom{Conv: 2, Soft: 8, Seq: 6, Size: 8, Open: 3}

// written is a device with a log of commits, and what the places of its blocks
// were behind each one of these: the first ones ahead of all.
type written struct {
	d      *dev.Device
	seq    int
	states [][]int
	lasts  int // how many of the commits were flushed
}

// next writes the next record at a zone's pointer, and answers its place.
func (w *written) next(t *testing.T, zone int, r api.Rec) int {
	t.Helper()
	w.seq++
	r.Epoch, r.Seq = 1, w.seq
	a := api.At{Zone: zone, Off: w.d.Zones()[zone].Point}
	if e := w.d.Write(a, rec.Lay(r)); e != api.OK {
		t.Fatalf("%v at %v: %d", r, a, e)
	}
	return geom.Num(small, a)
}

// commit writes a commit of a few blocks: Puts into zone 2, all else into zone 3.
func (w *written) commit(t *testing.T, c *chance) {
	t.Helper()
	then := slices.Clone(w.states[len(w.states)-1])
	n := c.below(3)
	for range n {
		block := c.below(len(then))
		if c.below(3) == 0 {
			w.next(t, 3, trim(block))
			then[block] = 0
		} else {
			then[block] = w.next(t, 2, put(block))
		}
	}
	w.next(t, 3, api.Rec{Kind: api.Commit, Block: c.below(2), Count: n})
	w.states = append(w.states, then)
	if c.below(4) == 0 {
		if e := w.d.Flush(); e != api.OK {
			t.Fatal(e)
		}
		w.lasts = len(w.states) - 1
	}
}

// left answers how many commits are told of a device, and the places then.
func (w *written) left(t *testing.T, d *dev.Device) (int, []int) {
	t.Helper()
	all, e := scan.All(d, small, 1, 0)
	if e != api.OK {
		t.Fatal(e)
	}
	groups := Groups(scan.Chain(all, 0))
	return len(groups), Do(w.states[0], groups)
}

// P15.2: of a log on a device, behind each crash, the blocks are as of one of its
// commits, and none that was flushed is lost; what is left of a commit whose end
// is lost counts for nothing.
func TestBehindEachCrash(t *testing.T) {
	told, cut := map[int]int{}, 0
	for seed := range 60 {
		c := chance(100 + seed)
		w := &written{d: dev.New(small), states: [][]int{make([]int, 4)}}
		for range 3 {
			w.commit(t, &c)
		}
		for keep := range (small.Size + 1) * (small.Size + 1) {
			d := w.d.Clone()
			d.Crash(api.Wreck{Keep: []int{keep / (small.Size + 1), keep % (small.Size + 1)}})
			n, places := w.left(t, d)
			if n < w.lasts || !slices.Equal(places, w.states[n]) {
				t.Fatalf("%d commits are told, %d last: %v, want %v", n, w.lasts, places, w.states[n])
			}
			told[n]++
			if n < len(w.states)-1 {
				cut++
			}
		}
		if n, places := w.left(t, w.d); n != len(w.states)-1 || !slices.Equal(places, w.states[n]) {
			t.Fatalf("without a crash %d commits are told: %v", n, places)
		}
	}
	if len(told) != 4 || cut < 500 {
		t.Errorf("so often so many commits are told: %v", told)
	}
}
