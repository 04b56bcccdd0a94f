package roll

import (
	"math"
	"slices"
	"testing"

	"windrow/api"
)

// chance answers numbers that follow no simple pattern, the same in each run.
type chance uint64

func (c *chance) below(n int) int {
	*c = *c*6364136223846793005 + 1442695040888963407
	return int(uint64(*c) >> 32 % uint64(n))
}

// put, trim and commit write records short.
func put(block int) api.Rec    { return api.Rec{Kind: api.Put, Block: block} }
func trim(block int) api.Rec   { return api.Rec{Kind: api.Trim, Block: block} }
func commit(count int) api.Rec { return api.Rec{Kind: api.Commit, Count: count} }

// found answers the records as they were found: numbered from 1 on, each at the
// place whose number is 100 more.
func found(recs ...api.Rec) []api.Found {
	var l []api.Found
	for i, r := range recs {
		r.Epoch, r.Seq = 1, i+1
		l = append(l, api.Found{Place: 101 + i, Rec: r})
	}
	return l
}

// group writes a group short: of a Commit of a client's, and of blocks and their
// places, by turns.
func group(seq int, changes ...int) api.Group {
	g := api.Group{Seq: seq}
	for i := 0; i < len(changes); i += 2 {
		g.Changes = append(g.Changes, api.Change{Block: changes[i], Place: changes[i+1]})
	}
	return g
}

// own answers the group as one of the cleaner's.
func own(g api.Group) api.Group {
	g.Own = true
	return g
}

// alike tells whether two lists of groups say the same.
func alike(a, b []api.Group) bool {
	return slices.EqualFunc(a, b, func(x, y api.Group) bool {
		return x.Own == y.Own && x.Seq == y.Seq && slices.Equal(x.Changes, y.Changes)
	})
}

// grouped holds what Groups tells of a list, and that the list stays.
func grouped(t *testing.T, l []api.Found, want ...api.Group) {
	t.Helper()
	was := slices.Clone(l)
	if got := Groups(l); !alike(got, want) {
		t.Fatalf("Groups of %v: %v, want %v", l, got, want)
	}
	if !slices.Equal(l, was) {
		t.Fatalf("the list is another one: %v, want %v", l, was)
	}
}

// done holds what Do tells of places and groups, and that both stay.
func done(t *testing.T, places []int, l []api.Group, want ...int) {
	t.Helper()
	was, groups := slices.Clone(places), copied(l)
	if got := Do(places, l); !slices.Equal(got, want) {
		t.Fatalf("Do of %v and %v: %v, want %v", places, l, got, want)
	}
	if !slices.Equal(places, was) || !alike(l, groups) {
		t.Fatalf("what is handed in is another one: %v %v, want %v %v", places, l, was, groups)
	}
}

// copied answers groups that share nothing with these.
func copied(l []api.Group) []api.Group {
	then := slices.Clone(l)
	for i := range then {
		then[i].Changes = slices.Clone(then[i].Changes)
	}
	return then
}

// P15.1: the chapter's example: one group, of two changes.
func TestExample(t *testing.T) {
	l := found(put(3), trim(4), commit(2), put(5))
	grouped(t, l, group(3, 3, 101, 4, 0))
	done(t, []int{1, 2, 3, 4, 5, 6}, Groups(l), 1, 2, 3, 101, 0, 6)
	if n := Users(Groups(l)); n != 1 {
		t.Errorf("Users: %d", n)
	}
}

// P15.1: several groups, in order, each of what stands behind the Commit ahead.
func TestGroups(t *testing.T) {
	l := found(put(7), commit(1), put(8), put(7), trim(9), commit(3), commit(0), trim(7), commit(1))
	grouped(t, l, group(2, 7, 101), group(6, 8, 103, 7, 104, 9, 0), group(7), group(9, 7, 0))
	// Of one block there may be several changes: they stay in order.
	l = found(put(1), trim(1), put(1), put(0), trim(1), commit(5))
	grouped(t, l, group(6, 1, 101, 1, 0, 1, 103, 0, 104, 1, 0))
}

// P15.1: of nothing, and where no Commit is, there are no groups.
func TestGroupsOfNothing(t *testing.T) {
	grouped(t, nil)
	grouped(t, []api.Found{})
	grouped(t, found(put(1)))
	grouped(t, found(put(1), trim(2), put(3)))
}

// P15.1: a Commit that is the first record holds nothing, and is a group, if its
// Count is 0; so is one right behind another.
func TestEmptyGroups(t *testing.T) {
	grouped(t, found(commit(0)), group(1))
	grouped(t, found(commit(0), commit(0), put(4), commit(1), commit(0)), group(1), group(2), group(4, 4, 103), group(5))
	for _, count := range []int{-1, 1, 2, math.MaxInt, math.MinInt} {
		grouped(t, found(commit(count)))
		grouped(t, found(commit(0), commit(count)), group(1))
		grouped(t, found(commit(count), commit(0)), group(2))
	}
}

// P15.1: a Commit with another Count holds nothing together, and neither is what
// stands ahead of it held by a later one.
func TestOtherCount(t *testing.T) {
	for _, count := range []int{0, 1, 3, 4, -1, -2, 1<<32 + 2, 2 - 1<<32, math.MaxInt, math.MinInt} {
		grouped(t, found(put(3), trim(4), commit(count)))
		grouped(t, found(put(3), trim(4), commit(count), put(5), commit(1)), group(5, 5, 104))
		grouped(t, found(put(3), trim(4), commit(count), commit(2)))
		grouped(t, found(put(3), trim(4), commit(count), put(5), commit(3)))
		grouped(t, found(put(3), trim(4), commit(count), put(5), commit(4)))
		grouped(t, found(put(1), commit(1), put(3), trim(4), commit(count), commit(0)), group(2, 1, 101), group(6))
	}
}

// P15.1: of each kind that there isn't a record counts as a Trim, and is counted.
func TestOtherKinds(t *testing.T) {
	for _, kind := range []int{0, 4, 5, -1, -2, -3, 256 + api.Put, 256 + api.Commit, 1<<32 + api.Put, 1<<32 + api.Commit, math.MaxInt, math.MinInt} {
		odd := api.Rec{Kind: kind, Block: 6, Count: 1, Data: api.Data{1}}
		grouped(t, found(put(5), odd, commit(2)), group(3, 5, 101, 6, 0))
		grouped(t, found(put(5), odd, commit(1)))
		grouped(t, found(odd))
		odd.Count = 0
		grouped(t, found(odd, commit(1)), group(2, 6, 0))
	}
}

// P15.1: whose a group is its Commit's Block tells: 1 alone is the cleaner's.
func TestOwn(t *testing.T) {
	mine := api.Rec{Kind: api.Commit, Block: 1, Count: 2}
	l := found(put(0), put(0), mine, commit(0), put(1), put(1), mine)
	grouped(t, l, own(group(3, 0, 101, 0, 102)), group(4), own(group(7, 1, 105, 1, 106)))
	for _, block := range []int{0, 2, 3, -1, 257, 1<<32 + 1, math.MaxInt, math.MinInt} {
		grouped(t, found(put(1), put(1), api.Rec{Kind: api.Commit, Block: block, Count: 2}), group(3, 1, 101, 1, 102))
	}
}

// P15.1: numbers, blocks and places are told as they are; but for a Put's the
// place isn't.
func TestNumbersAsTheyAre(t *testing.T) {
	odd := []int{0, 1, -1, 1 << 32, api.MaxBlock, api.MaxNum, math.MaxInt, math.MinInt}
	for _, n := range odd {
		for _, m := range odd {
			last := api.Found{Place: m, Rec: api.Rec{Kind: api.Commit, Epoch: m, Seq: n, Count: 2}}
			l := []api.Found{{Place: n, Rec: put(m)}, {Place: n, Rec: trim(m)}, last}
			grouped(t, l, group(n, m, n, m, 0))
		}
	}
	// The order is the list's, whatever the records' numbers and places are.
	l := found(put(2), put(1), commit(2), trim(0), commit(1))
	grouped(t, []api.Found{l[3], l[4], l[1], l[0], l[2]}, group(5, 0, 0), group(3, 1, 102, 2, 101))
	grouped(t, []api.Found{l[3], l[2], l[1], l[4], l[0]}, group(5, 1, 102))
}

// byWords answers the groups as the words have them: of each Commit what stands
// between it and the Commit ahead, or the first record.
func byWords(l []api.Found) []api.Group {
	var groups []api.Group
	for i, f := range l {
		if f.Rec.Kind != api.Commit {
			continue
		}
		first := i
		for first > 0 && l[first-1].Rec.Kind != api.Commit {
			first--
		}
		if f.Rec.Count != i-first {
			continue
		}
		g := api.Group{Own: f.Rec.Block == 1, Seq: f.Rec.Seq}
		for _, r := range l[first:i] {
			c := api.Change{Block: r.Rec.Block}
			if r.Rec.Kind == api.Put {
				c.Place = r.Place
			}
			g.Changes = append(g.Changes, c)
		}
		groups = append(groups, g)
	}
	return groups
}

// kinds are the records of which all short lists are made.
func kinds() []api.Rec {
	mine := api.Rec{Kind: api.Commit, Block: 1, Count: 1}
	return []api.Rec{put(0), put(1), trim(0), {Kind: 9, Block: 1}, commit(0), commit(1), commit(2), commit(3), mine}
}

// P15.1, P15.2: of all lists of a few records, held against the words; the groups
// of each list are a beginning of those of each longer one.
func TestAllShortLists(t *testing.T) {
	lists, groups := 0, 0
	var hold func(recs []api.Rec, ahead []api.Group)
	hold = func(recs []api.Rec, ahead []api.Group) {
		l := found(recs...)
		want := byWords(l)
		grouped(t, l, want...)
		if len(ahead) > len(want) || !alike(ahead, want[:len(ahead)]) {
			t.Fatalf("Groups of %v: %v, ahead of the last record %v", l, want, ahead)
		}
		lists++
		groups += len(want)
		if len(recs) == 5 {
			return
		}
		for _, r := range kinds() {
			hold(append(recs[:len(recs):len(recs)], r), want)
		}
	}
	hold(nil, nil)
	if lists != 66430 || groups < lists/2 {
		t.Errorf("%d lists, %d groups", lists, groups)
	}
}

// anyLog answers a list of about so many records by chance, of a few blocks; most
// of its Commits count right.
func anyLog(c *chance, length, blocks int) []api.Found {
	var recs []api.Rec
	count := 0
	for len(recs) < length {
		switch c.below(8) {
		case 0, 1:
			r := commit(count)
			if c.below(5) == 0 {
				r.Count += c.below(5) - 2
			}
			r.Block = c.below(3)
			recs = append(recs, r)
			count = -1
		case 2:
			recs = append(recs, trim(c.below(blocks)))
		case 3:
			recs = append(recs, api.Rec{Kind: c.below(9) - 4, Block: c.below(blocks), Count: c.below(3)})
			if recs[len(recs)-1].Kind == api.Commit {
				count = -1
			}
		default:
			recs = append(recs, put(c.below(blocks+2)-1))
		}
		count++
	}
	return found(recs...)
}

// P15.1: of lists by chance, held against the words.
func TestAnyLists(t *testing.T) {
	c := chance(1)
	groups, mine := 0, 0
	for range 3000 {
		l := anyLog(&c, c.below(60), 8)
		want := byWords(l)
		grouped(t, l, want...)
		groups += len(want)
		mine += len(want) - Users(want)
	}
	if groups < 10000 || mine < 3000 || mine > groups/2 {
		t.Errorf("%d groups, %d of them the cleaner's", groups, mine)
	}
}

// P15.1: a long list; also one of which one Commit holds all.
func TestLongLists(t *testing.T) {
	c := chance(2)
	l := anyLog(&c, 100000, api.MaxBlock)
	grouped(t, l, byWords(l)...)
	for i := range l {
		l[i].Rec.Kind = api.Put
	}
	l[len(l)-1].Rec = api.Rec{Kind: api.Commit, Seq: 5, Count: len(l) - 1}
	got := Groups(l)
	if len(got) != 1 || got[0].Seq != 5 || len(got[0].Changes) != len(l)-1 {
		t.Fatalf("%d groups", len(got))
	}
	for i, change := range got[0].Changes {
		if change != (api.Change{Block: l[i].Rec.Block, Place: l[i].Place}) {
			t.Fatalf("change %d: %v, of %v", i, change, l[i])
		}
	}
}

// P15.3: what Groups answers is new memory: what is done to the list isn't seen
// in it, nor what is done to one of its lists in another one.
func TestGroupsAreNewMemory(t *testing.T) {
	l := found(put(1), trim(2), put(3), commit(3), put(4), commit(1), commit(0), put(5), put(6), commit(2))
	want := []api.Group{group(4, 1, 101, 2, 0, 3, 103), group(6, 4, 105), group(7), group(10, 5, 108, 6, 109)}
	grouped(t, l, want...)
	first, second := Groups(l), Groups(l)
	clear(l)
	for i := range first {
		for k := range first[i].Changes {
			first[i].Changes[k] = api.Change{Block: 77, Place: 78}
		}
		first[i].Changes = append(first[i].Changes, api.Change{Block: 79, Place: 80})
		for k, g := range first[i+1:] {
			if !alike([]api.Group{g}, want[i+1+k:i+2+k]) {
				t.Fatalf("behind a change of group %d, group %d: %v", i, i+1+k, g)
			}
		}
	}
	if !alike(second, want) {
		t.Errorf("the groups are others: %v", second)
	}
	for i, g := range first {
		if len(g.Changes) != len(want[i].Changes)+1 {
			t.Errorf("group %d: %v", i, g)
		}
	}
}
