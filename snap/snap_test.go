package snap

import (
	"math"
	"slices"
	"testing"

	"windrow/api"
)

// chance answers numbers that follow no simple pattern, the same in each run.
type chance uint64

func (c *chance) below(n int) int {
	*c = *c*6364136223846793005 + 1442695040888963407
	return int(uint64(*c) >> 32 % uint64(n))
}

// nothing is a block that had not been written.
func nothing(block int) api.Old { return api.Old{Block: block} }

// full is a block that was that.
func full(block int, b byte) api.Old {
	return api.Old{Block: block, Has: true, Data: api.Data{b, api.Block - 1: b}}
}

// commits makes snapshots in which those commits have been made.
func commits(lists ...[]api.Old) *Snap {
	s := New()
	for _, l := range lists {
		s.Commit(l)
	}
	return s
}

// reads holds that a block was that as of a number.
func reads(t *testing.T, s *Snap, block, n int, want api.Old) {
	t.Helper()
	if old, ok := s.Read(block, n); !ok || old != want {
		t.Errorf("Read of %d as of %d: %v %v, want %v", block, n, old, ok, want)
	}
}

// none holds that nothing is kept of a block as of a number.
func none(t *testing.T, s *Snap, block, n int) {
	t.Helper()
	if old, ok := s.Read(block, n); ok || old != (api.Old{}) {
		t.Errorf("Read of %d as of %d: %v %v, want nothing", block, n, old, ok)
	}
}

// counts holds how many have committed, and how much is kept.
func counts(t *testing.T, s *Snap, now, size int) {
	t.Helper()
	if s.Now() != now || s.Size() != size {
		t.Errorf("Now %d, Size %d, want %d and %d", s.Now(), s.Size(), now, size)
	}
}

// last holds which commit changed a block last.
func last(t *testing.T, s *Snap, block, want int) {
	t.Helper()
	if got := s.Last(block); got != want {
		t.Errorf("Last of %d: %d, want %d", block, got, want)
	}
}

// P17.1: the chapter's example.
func TestExample(t *testing.T) {
	s := commits([]api.Old{nothing(3)}, []api.Old{full(3, 'x')})
	reads(t, s, 3, 0, nothing(3))
	reads(t, s, 3, 1, full(3, 'x'))
	none(t, s, 3, 2)
	counts(t, s, 2, 2)
	last(t, s, 3, 2)
}

// P17.1: at first nothing has committed, and nothing is kept.
func TestNew(t *testing.T) {
	s := New()
	counts(t, s, 0, 0)
	for _, n := range []int{math.MinInt, -1, 0, 1, math.MaxInt} {
		none(t, s, 0, n)
		none(t, s, 3, n)
		none(t, s, n, 0)
		last(t, s, n, 0)
	}
	for _, n := range []int{math.MinInt, 0, math.MaxInt} {
		s.Forget(n)
		counts(t, s, 0, 0)
	}
}

// P17.1: snapshots know nothing of one another.
func TestTwo(t *testing.T) {
	a, b := New(), New()
	a.Commit([]api.Old{full(3, 1)})
	b.Commit(nil)
	b.Commit([]api.Old{full(3, 2), full(4, 2)})
	counts(t, a, 1, 1)
	counts(t, b, 2, 2)
	a.Forget(1)
	reads(t, b, 3, 0, full(3, 2))
	none(t, a, 3, 0)
	last(t, a, 4, 0)
}

// P17.1: what a block was as of a number comes of the first commit behind it that
// changed that block, however many others lie between.
func TestRead(t *testing.T) {
	s := commits([]api.Old{full(1, 10), full(2, 20)}, []api.Old{full(2, 21)}, nil, []api.Old{full(1, 11)}, []api.Old{full(2, 22)})
	for n, want := range []api.Old{full(1, 10), full(1, 11), full(1, 11), full(1, 11)} {
		reads(t, s, 1, n, want)
	}
	for n, want := range []api.Old{full(2, 20), full(2, 21), full(2, 22), full(2, 22), full(2, 22)} {
		reads(t, s, 2, n, want)
	}
	none(t, s, 1, 4)
	none(t, s, 2, 5)
	for _, n := range []int{math.MinInt, -2, -1} {
		reads(t, s, 1, n, full(1, 10))
		reads(t, s, 2, n, full(2, 20))
		none(t, s, 3, n)
	}
	for _, n := range []int{6, 1 << 40, math.MaxInt} {
		none(t, s, 1, n)
		none(t, s, 2, n)
	}
	counts(t, s, 5, 5)
}

// P17.1: a commit of nothing counts too; nil and empty lists are one.
func TestCommitOfNothing(t *testing.T) {
	s := commits(nil, []api.Old{})
	counts(t, s, 2, 0)
	s.Commit([]api.Old{full(7, 1)})
	counts(t, s, 3, 1)
	last(t, s, 7, 3)
	reads(t, s, 7, 0, full(7, 1))
	reads(t, s, 7, 2, full(7, 1))
	none(t, s, 7, 3)
}

// P17.1: of a block that stands twice in a commit the first counts, whatever
// stands between; in the next commit it counts again.
func TestTwice(t *testing.T) {
	s := commits([]api.Old{full(1, 10), full(2, 20), full(1, 99), nothing(1), nothing(2), full(3, 30)})
	counts(t, s, 1, 3)
	reads(t, s, 1, 0, full(1, 10))
	reads(t, s, 2, 0, full(2, 20))
	reads(t, s, 3, 0, full(3, 30))
	s.Commit([]api.Old{nothing(1), full(1, 11)})
	counts(t, s, 2, 4)
	reads(t, s, 1, 0, full(1, 10))
	reads(t, s, 1, 1, nothing(1))
	s.Forget(1)
	counts(t, s, 2, 1)
	reads(t, s, 1, 0, nothing(1))
	none(t, s, 1, 2)
}

// P17.1: what is kept is told as it was handed in: whether it had been written,
// and all its data. A block that was nothing isn't one of which nothing is kept.
func TestWhole(t *testing.T) {
	var data api.Data
	for i := range data {
		data[i] = byte(255 - i)
	}
	odd := api.Old{Block: 5, Data: data}
	s := commits([]api.Old{{Block: 4, Has: true, Data: data}, odd, {Block: 6, Has: true}, {}})
	reads(t, s, 4, 0, api.Old{Block: 4, Has: true, Data: data})
	reads(t, s, 5, 0, odd)
	reads(t, s, 6, 0, api.Old{Block: 6, Has: true})
	reads(t, s, 0, 0, api.Old{})
	none(t, s, 0, 1)
}

// P17.1: blocks of any number are told apart, also from numbers of commits.
func TestBlocks(t *testing.T) {
	blocks := []int{math.MinInt, -1, 0, 1, 2, 3, api.MaxBlock - 1, api.MaxBlock, 1 << 32, math.MaxInt}
	s := New()
	for i, block := range blocks {
		last(t, s, block, 0)
		s.Commit([]api.Old{full(block, byte(i))})
		last(t, s, block, i+1)
	}
	for i, block := range blocks {
		reads(t, s, block, i, full(block, byte(i)))
		none(t, s, block, i+1)
		last(t, s, block, i+1)
	}
	counts(t, s, len(blocks), len(blocks))
}

// P17.1: the last commit that changed a block is told, kept or not.
func TestLast(t *testing.T) {
	s := commits([]api.Old{full(1, 1), full(2, 2)}, []api.Old{full(1, 3)}, nil)
	last(t, s, 1, 2)
	last(t, s, 2, 1)
	last(t, s, 3, 0)
	for n := range 6 {
		s.Forget(n)
		last(t, s, 1, 2)
		last(t, s, 2, 1)
		last(t, s, 3, 0)
	}
	s.Commit([]api.Old{full(3, 1)})
	last(t, s, 1, 2)
	last(t, s, 3, 4)
}

// P17.1: behind Forget(n) nothing of the commits up to n is kept, and all of the
// later ones is; what was let go doesn't come back.
func TestForget(t *testing.T) {
	s := commits([]api.Old{full(1, 10), full(2, 20)}, []api.Old{full(1, 11)}, []api.Old{full(1, 12), full(3, 30)})
	for _, n := range []int{math.MinInt, -1, 0} {
		s.Forget(n)
		counts(t, s, 3, 5)
	}
	s.Forget(1)
	counts(t, s, 3, 3)
	reads(t, s, 1, 0, full(1, 11))
	none(t, s, 2, 0)
	reads(t, s, 3, 0, full(3, 30))
	s.Forget(0)
	s.Forget(1)
	counts(t, s, 3, 3)
	s.Forget(2)
	counts(t, s, 3, 2)
	reads(t, s, 1, math.MinInt, full(1, 12))
	s.Forget(3)
	counts(t, s, 3, 0)
	none(t, s, 1, 0)
	none(t, s, 3, 0)
}

// P17.1: what commits behind a Forget is kept, however great its number was.
func TestForgetAhead(t *testing.T) {
	for _, n := range []int{1, 2, 100, math.MaxInt - 1, math.MaxInt} {
		s := commits([]api.Old{full(1, 10)})
		s.Forget(n)
		counts(t, s, 1, 0)
		s.Commit([]api.Old{full(1, 11), full(2, 20)})
		counts(t, s, 2, 2)
		reads(t, s, 1, 0, full(1, 11))
		reads(t, s, 2, 1, full(2, 20))
		s.Commit([]api.Old{full(2, 21)})
		s.Forget(2)
		counts(t, s, 3, 1)
		reads(t, s, 2, 0, full(2, 21))
		none(t, s, 1, 0)
		s.Forget(max(n, 3))
		counts(t, s, 3, 0)
	}
}

// P17.3: the list that was handed in stays, and may be changed then without
// changing what was kept.
func TestHandedIn(t *testing.T) {
	s := New()
	l := []api.Old{full(1, 10), full(2, 20), full(1, 99), nothing(3)}
	was := slices.Clone(l)
	s.Commit(l)
	if !slices.Equal(l, was) {
		t.Fatalf("the list is another one: %v, want %v", l, was)
	}
	for i := range l {
		l[i] = full(9, 90)
	}
	reads(t, s, 1, 0, full(1, 10))
	reads(t, s, 2, 0, full(2, 20))
	reads(t, s, 3, 0, nothing(3))
	none(t, s, 9, 0)
}

// P17.3: a list whose array goes on behind it is neither read nor written there.
func TestBehindTheList(t *testing.T) {
	all := []api.Old{full(1, 10), full(2, 20), full(3, 30)}
	s := commits(all[:1])
	counts(t, s, 1, 1)
	s.Commit(all[:2:3])
	counts(t, s, 2, 3)
	if !slices.Equal(all, []api.Old{full(1, 10), full(2, 20), full(3, 30)}) {
		t.Errorf("the array is another one: %v", all)
	}
}

// P17.3: what is answered is new memory: what is done to it comes to nothing.
func TestAnswered(t *testing.T) {
	s := commits([]api.Old{full(1, 10)})
	old, _ := s.Read(1, 0)
	old.Block, old.Has, old.Data[0] = 7, false, 77
	reads(t, s, 1, 0, full(1, 10))
}

// P1: reads and lettings go aren't slow, however many commits there were: the
// numbers that a block didn't change in aren't gone over, nor all that is kept
// while none of it goes.
func TestMany(t *testing.T) {
	const most = 200000
	s := commits(nil, []api.Old{full(1, 10), full(2, 20)})
	for i := range most {
		s.Commit([]api.Old{full(100+i, byte(i))})
		s.Forget(1)
		reads(t, s, 1, 1, full(1, 10))
		none(t, s, 1, 2)
	}
	s.Commit([]api.Old{full(1, 11)})
	reads(t, s, 1, 2, full(1, 11))
	reads(t, s, 1, math.MinInt, full(1, 10))
	counts(t, s, most+3, most+3)
	s.Forget(most + 1)
	counts(t, s, most+3, 2)
	reads(t, s, 1, 0, full(1, 11))
}
