package scan

import (
	"math"
	"slices"
	"testing"

	"windrow/api"
)

// numbered answers a list of records of these numbers; the place tells which one
// of the list each is.
func numbered(seqs ...int) []api.Found {
	var l []api.Found
	for i, seq := range seqs {
		l = append(l, api.Found{Place: 1 + i, Rec: api.Rec{Kind: api.Trim, Epoch: 1, Seq: seq}})
	}
	return l
}

// chained holds what Chain and Last tell of a list behind a number: the records
// with these places.
func chained(t *testing.T, l []api.Found, seq int, places ...int) {
	t.Helper()
	was := slices.Clone(l)
	var got []int
	for _, f := range Chain(l, seq) {
		got = append(got, f.Place)
		if f != l[f.Place-1] {
			t.Fatalf("Chain of %v behind %d: %v is another one", l, seq, f)
		}
	}
	if !slices.Equal(got, places) {
		t.Fatalf("Chain of %v behind %d: places %v, want %v", l, seq, got, places)
	}
	want := seq
	if len(places) > 0 {
		want = l[places[len(places)-1]-1].Rec.Seq
	}
	if n := Last(l, seq); n != want {
		t.Fatalf("Last of %v behind %d: %d, want %d", l, seq, n, want)
	}
	if !slices.Equal(l, was) {
		t.Fatalf("the list is another one: %v, want %v", l, was)
	}
}

// P14.2: chains by hand.
func TestChainByHand(t *testing.T) {
	chained(t, numbered(5, 6, 8), 4, 1, 2)
	chained(t, numbered(5, 6, 8), 5, 2)
	chained(t, numbered(5, 6, 8), 7, 3)
	for _, seq := range []int{0, 1, 3, 6, 8, 9, api.MaxNum} {
		chained(t, numbered(5, 6, 8), seq)
	}
	chained(t, numbered(1, 2, 3), 0, 1, 2, 3)
	// Of one number the first one counts; what is behind it is looked for behind
	// that one alone.
	chained(t, numbered(1, 1, 2, 2), 0, 1, 3)
	chained(t, numbered(2, 1, 1, 3), 0, 2)
	chained(t, numbered(2, 1, 2), 0, 2, 3)
	chained(t, numbered(3, 2, 1), 0, 3)
	chained(t, numbered(3, 2, 1), 1, 2)
	// Others may stand between.
	chained(t, numbered(1, 9, 2, 1, 7, 3, 5), 0, 1, 3, 6)
	chained(t, numbered(1, 3, 2, 4), 0, 1, 3)
}

// P14.2: of a list without records there is no chain.
func TestChainOfNothing(t *testing.T) {
	for _, seq := range []int{0, 1, 5, api.MaxNum - 1, api.MaxNum} {
		chained(t, nil, seq)
		chained(t, []api.Found{}, seq)
	}
}

// P14.2: at the edges of the number; and of any list, with records of numbers
// that no right record has.
func TestChainAtTheEdges(t *testing.T) {
	const most = api.MaxNum
	chained(t, numbered(0, 1), 0, 2)
	chained(t, numbered(most-1, most), most-2, 1, 2)
	chained(t, numbered(most-1, most), most-1, 2)
	chained(t, numbered(most-1, most), most)
	chained(t, numbered(most, most+1, most+2), most-1, 1, 2, 3)
	chained(t, numbered(most, most+1, most+2), most, 2, 3)
	chained(t, numbered(most-1, most+1), most-2, 1)
	odd := []int{math.MinInt, math.MaxInt, -1, 0, 1, math.MaxInt, -2, 2, math.MinInt, -3, 3, 1<<32 + 4, 4 - 1<<32}
	chained(t, numbered(odd...), 0, 5, 8, 11)
	chained(t, numbered(odd...), 2, 11)
	chained(t, numbered(odd...), 3)
	chained(t, numbered(odd...), most)
	chained(t, numbered(1<<32+1, 1, 1<<32+2, 2), 1<<32, 1, 3)
}

// P14.2: but for its number nothing of a record is asked: of whatever kind, epoch
// or block, right or not, it is told as it is.
func TestChainOfAnyRecords(t *testing.T) {
	l := []api.Found{
		{Place: 1, Rec: api.Rec{Kind: api.Commit, Epoch: 9, Seq: 1, Block: 1, Count: 7}},
		{Place: 2, Rec: api.Rec{Kind: -1, Epoch: -4, Seq: 2, Block: -5, Count: -6, Data: api.Data{1}}},
		{Place: 3, Rec: api.Rec{Seq: 3}},
		{Place: 4, Rec: api.Rec{Kind: api.Put, Epoch: 1, Seq: 4, Block: math.MaxInt, Data: api.Data{31: 8}}},
	}
	chained(t, l, 0, 1, 2, 3, 4)
	for _, place := range []int{0, -1, math.MinInt, math.MaxInt, 5} {
		one := []api.Found{{Place: place, Rec: record(2, 8)}}
		if got := Chain(one, 7); !slices.Equal(got, one) {
			t.Errorf("Chain of %v: %v", one, got)
		}
		if n := Last(one, 7); n != 8 {
			t.Errorf("Last of %v: %d", one, n)
		}
	}
}

// byWords answers the places of the chain as the words have it: the first one in
// the list, and of those behind it, and so on.
func byWords(l []api.Found, seq int) []int {
	i := slices.IndexFunc(l, func(f api.Found) bool { return f.Rec.Seq == seq+1 })
	if i < 0 {
		return nil
	}
	return append([]int{l[i].Place}, byWords(l[i+1:], seq+1)...)
}

// P14.2: of all lists of a few records, behind each number.
func TestAllShortLists(t *testing.T) {
	var hold func(seqs []int)
	hold = func(seqs []int) {
		l := numbered(seqs...)
		for seq := range 6 {
			chained(t, l, seq, byWords(l, seq)...)
		}
		if len(seqs) == 6 {
			return
		}
		for seq := range 5 {
			hold(append(seqs[:len(seqs):len(seqs)], seq))
		}
	}
	hold(nil)
}

// P14.2: long chains, with others between, are told to their end; what is behind
// a gap counts for nothing.
func TestLongChains(t *testing.T) {
	const long = 20000
	for _, first := range []int{1, 1 << 20, api.MaxNum - long + 1} {
		var seqs, places []int
		c := chance(first)
		for seq := first; seq < first+long; seq++ {
			for range c.below(3) {
				seqs = append(seqs, seq+2+c.below(50), seq-1-c.below(50))
			}
			seqs = append(seqs, seq)
			places = append(places, len(seqs))
		}
		seqs = append(seqs, first+long+1, first+long+2)
		chained(t, numbered(seqs...), first-1, places...)
	}
}

// P14.4: what Chain answers is new memory: what is done to it isn't seen in the
// list, nor the other way round.
func TestChainIsNewMemory(t *testing.T) {
	l := numbered(1, 2, 3, 9)
	was := slices.Clone(l)
	chain := Chain(l, 0)
	chain[0].Place, chain[2].Rec.Data[0] = 77, 1
	_ = append(chain, api.Found{Place: 78})
	if !slices.Equal(l, was) {
		t.Errorf("the list is another one: %v", l)
	}
	chain = Chain(l, 0)
	again := Chain(l, 0)
	l[1].Place = 79
	chain[0].Place = 80
	if !slices.Equal(again, was[:3]) {
		t.Errorf("the chain is another one: %v", again)
	}
	Last(l, 0)
	if l[1].Place != 79 || l[0] != was[0] {
		t.Errorf("the list is another one: %v", l)
	}
}
