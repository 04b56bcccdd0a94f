package roll

import (
	"math"
	"slices"
	"testing"

	"windrow/api"
)

// P15.1: all changes are done, in order, of whatever group they are.
func TestDo(t *testing.T) {
	done(t, []int{5, 6, 7}, []api.Group{group(1, 2, 11, 1, 12, 2, 13), own(group(2, 1, 0)), group(3, 0, 17)}, 17, 0, 13)
	done(t, []int{5, 6, 7}, []api.Group{group(1, 0, 0, 0, 8), group(2, 1, 9), group(3, 1, 0)}, 8, 0, 7)
	done(t, []int{5, 6, 7}, []api.Group{own(group(9, 2, 1)), group(4, 2, 2), own(group(6, 2, 3))}, 5, 6, 3)
	// Several blocks may stand at one place: that isn't asked.
	done(t, []int{5, 6, 7}, []api.Group{group(1, 0, 6), group(2, 2, 6)}, 6, 6, 6)
}

// P15.1: without groups, without changes, and without blocks nothing is done.
func TestDoNothing(t *testing.T) {
	for _, l := range [][]api.Group{nil, {}, {group(1), own(group(2))}} {
		for _, places := range [][]int{nil, {}, {0}, {3, 0, 9}} {
			done(t, places, l, places...)
		}
	}
	for _, places := range [][]int{nil, {}} {
		done(t, places, []api.Group{group(1, 0, 4, -1, 5, 1, 6)})
	}
}

// P15.1: a change of a block that there isn't does nothing, and those beside it
// are done.
func TestDoOfNoBlock(t *testing.T) {
	for _, block := range []int{-1, -2, -3, 3, 4, api.MaxBlock, 1 << 32, 1<<32 + 1, -1 << 32, math.MaxInt, math.MinInt} {
		done(t, []int{5, 6, 7}, []api.Group{group(1, block, 9)}, 5, 6, 7)
		done(t, []int{5, 6, 7}, []api.Group{group(1, 0, 8, block, 9, 2, 10), group(2, 1, 11)}, 8, 11, 10)
	}
	done(t, []int{5}, []api.Group{group(1, 0, 1, 1, 2)}, 1)
	// That the list has room for more blocks makes none.
	roomy := []int{5, 6, 7, 8}
	done(t, roomy[:2], []api.Group{group(1, 2, 9, 1, 0, 3, 9)}, 5, 0)
	if !slices.Equal(roomy, []int{5, 6, 7, 8}) {
		t.Errorf("behind the places stands %v", roomy)
	}
	for n := range 40 {
		places := make([]int, n)
		for more := range 40 {
			done(t, places, []api.Group{group(1, n+more, 9)}, places...)
		}
	}
}

// P15.1: the first block and the last one, of as many as there may be.
func TestDoAtTheEdges(t *testing.T) {
	for _, n := range []int{1, 2, api.PerPage, api.MaxBlock} {
		places := make([]int, n)
		want := slices.Clone(places)
		want[0], want[n-1] = 1, 1<<32-1
		done(t, places, []api.Group{group(1, 0, 1, -1, 3, n, 4, n-1, 1<<32-1)}, want...)
	}
	for _, place := range []int{0, 1, 1<<32 - 1, 1 << 32, math.MaxInt} {
		done(t, []int{5, 6}, []api.Group{group(1, 1, place)}, 5, place)
	}
}

// P15.1: how many of the groups aren't the cleaner's, whatever else they are.
func TestUsers(t *testing.T) {
	for n := range 1 << 8 {
		var l []api.Group
		want := 0
		for i := range 8 {
			g := group(i, i, n)
			if n>>i&1 == 1 {
				g = own(g)
			} else {
				want++
			}
			l = append(l, g)
		}
		if got := Users(l); got != want {
			t.Fatalf("Users of %v: %d, want %d", l, got, want)
		}
	}
	for _, l := range [][]api.Group{nil, {}, {{Own: true}}, {{Own: true, Seq: 1}, {Own: true, Seq: -1}}} {
		if got := Users(l); got != 0 {
			t.Errorf("Users of %v: %d", l, got)
		}
	}
	if got := Users([]api.Group{{}, {Seq: 1}, {Own: true}}); got != 2 {
		t.Errorf("Users: %d", got)
	}
}

// plainly answers a block's place behind all changes: the last one of its own, or
// the one ahead.
func plainly(block, place int, l []api.Group) int {
	for _, g := range slices.Backward(l) {
		for _, c := range slices.Backward(g.Changes) {
			if c.Block == block {
				return c.Place
			}
		}
	}
	return place
}

// P15.1, P15.2: of lists by chance, cut off anywhere, the groups are a beginning;
// each group done by itself, one behind the other, comes to what all do at once.
func TestCutOffAnywhere(t *testing.T) {
	c := chance(3)
	moved := 0
	for range 300 {
		l := anyLog(&c, c.below(80), 8)
		all := Groups(l)
		was := []int{1, 0, 2, 0, 3, 0, 4, 0}
		for cut := range len(l) + 1 {
			groups := Groups(l[:cut])
			if len(groups) > len(all) || !alike(groups, all[:len(groups)]) {
				t.Fatalf("the first %d of %v: %v, of all %v", cut, l, groups, all)
			}
			one := was
			for i := range groups {
				one = Do(one, groups[i:i+1])
			}
			var want []int
			for block, place := range was {
				want = append(want, plainly(block, place, groups))
			}
			done(t, was, groups, want...)
			if !slices.Equal(one, want) {
				t.Fatalf("%v one by one: %v, want %v", groups, one, want)
			}
			if !slices.Equal(one, was) {
				moved++
			}
		}
	}
	if moved < 5000 {
		t.Errorf("so often something was moved: %d", moved)
	}
}

// P15.2: of a list that is cut off by each single record the number of groups
// rises by one, where that one is a Commit that counts right, or stays.
func TestGroupsRiseOneByOne(t *testing.T) {
	c := chance(4)
	l := anyLog(&c, 400, 5)
	ahead := 0
	for i, f := range l {
		n := len(Groups(l[:i+1]))
		if n != ahead && (n != ahead+1 || f.Rec.Kind != api.Commit) {
			t.Fatalf("behind %v: %d groups, ahead of it %d", f, n, ahead)
		}
		ahead = n
	}
	if all := len(Groups(l)); ahead != all || all < 40 {
		t.Errorf("%d groups, %d of all", ahead, all)
	}
}

// P15.3: what Do answers is new memory.
func TestDoIsNewMemory(t *testing.T) {
	for _, l := range [][]api.Group{nil, {group(1, 1, 9)}} {
		places := []int{5, 6, 7, 8}[:3]
		first, second := Do(places, l), Do(places, l)
		want := slices.Clone(first)
		first[0], first[1] = 77, 78
		_ = append(first, 79)
		_ = append(second[:2], 80)
		if !slices.Equal(places[:4], []int{5, 6, 7, 8}) {
			t.Errorf("the places are others: %v", places[:4])
		}
		second[2] = want[2]
		clear(places)
		if len(l) > 0 {
			l[0].Changes[0].Place = 81
		}
		if !slices.Equal(second, want) {
			t.Errorf("what was answered is another one: %v, want %v", second, want)
		}
	}
}
