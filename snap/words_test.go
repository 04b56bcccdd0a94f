package snap

import (
	"testing"

	"windrow/api"
)

// words are snapshots word by word: all commits there were, and of which of them
// something is kept.
type words struct {
	lists [][]api.Old
	kept  []bool
}

func (w *words) commit(l []api.Old) {
	w.lists = append(w.lists, l)
	w.kept = append(w.kept, true)
}

func (w *words) forget(n int) {
	for i := range w.kept {
		if i+1 <= n {
			w.kept[i] = false
		}
	}
}

// first answers what a list says first of a block.
func first(l []api.Old, block int) (api.Old, bool) {
	for _, o := range l {
		if o.Block == block {
			return o, true
		}
	}
	return api.Old{}, false
}

func (w *words) read(block, n int) (api.Old, bool) {
	for i, l := range w.lists {
		if i+1 <= n || !w.kept[i] {
			continue
		}
		if o, ok := first(l, block); ok {
			return o, true
		}
	}
	return api.Old{}, false
}

func (w *words) last(block int) int {
	n := 0
	for i, l := range w.lists {
		if _, ok := first(l, block); ok {
			n = i + 1
		}
	}
	return n
}

func (w *words) size() int {
	n := 0
	for i, l := range w.lists {
		if !w.kept[i] {
			continue
		}
		for j, o := range l {
			if _, ok := first(l[:j], o.Block); !ok {
				n++
			}
		}
	}
	return n
}

// same holds snapshots against the words, in all that they tell of the blocks
// below a number.
func same(t *testing.T, s *Snap, w *words, blocks int) {
	t.Helper()
	now := len(w.lists)
	if s.Now() != now || s.Size() != w.size() {
		t.Fatalf("Now %d, Size %d, want %d and %d", s.Now(), s.Size(), now, w.size())
	}
	for block := range blocks {
		if s.Last(block) != w.last(block) {
			t.Fatalf("Last of %d: %d, want %d", block, s.Last(block), w.last(block))
		}
		for n := -2; n <= now+2; n++ {
			got, ok := s.Read(block, n)
			want, is := w.read(block, n)
			if got != want || ok != is {
				t.Fatalf("Read of %d as of %d: %v %v, want %v %v", block, n, got, ok, want, is)
			}
		}
	}
}

// move is what a short walk does: a commit of some blocks, or a letting go.
type move struct {
	blocks []int
	forget int
}

// moves are all that a short walk may do next.
func moves() []move {
	l := []move{{}, {blocks: []int{1}}, {blocks: []int{2}}, {blocks: []int{1, 2}}, {blocks: []int{2, 1, 2}}}
	for n := 1; n <= 4; n++ {
		l = append(l, move{forget: n})
	}
	return l
}

// P17.1: over all walks of five moves.
func TestAllWalks(t *testing.T) {
	all := moves()
	count := 1
	for range 5 {
		count *= len(all)
	}
	for walk := range count {
		s, w := New(), &words{}
		mark := byte(0)
		for rest, i := walk, 0; i < 5; i++ {
			m := all[rest%len(all)]
			rest /= len(all)
			if m.forget > 0 {
				s.Forget(m.forget)
				w.forget(m.forget)
				continue
			}
			var l []api.Old
			for _, block := range m.blocks {
				mark++
				l = append(l, full(block, mark))
			}
			s.Commit(l)
			w.commit(l)
		}
		same(t, s, w, 4)
	}
}

// P17.1: over long walks by chance, of few blocks and of many.
func TestLongWalks(t *testing.T) {
	c := chance(17)
	for range 300 {
		s, w := New(), &words{}
		blocks := 1 + c.below(9)
		for range 1 + c.below(40) {
			if c.below(4) == 0 {
				n := c.below(len(w.lists)+4) - 1
				s.Forget(n)
				w.forget(n)
				continue
			}
			var l []api.Old
			for range c.below(5) {
				o := full(c.below(blocks), byte(c.below(256)))
				o.Has = c.below(3) > 0
				l = append(l, o)
			}
			s.Commit(l)
			w.commit(l)
		}
		same(t, s, w, blocks+1)
	}
}

// store is a plain list of what all blocks were behind each commit.
type store struct {
	states [][]api.Old
}

// change answers what some blocks were, and lets them be something else.
func (p *store) change(c *chance) []api.Old {
	now := p.states[len(p.states)-1]
	then := append([]api.Old(nil), now...)
	var l []api.Old
	for range c.below(4) {
		block := c.below(len(now))
		l = append(l, now[block])
		then[block] = full(block, byte(c.below(256)))
		if c.below(4) == 0 {
			then[block] = nothing(block)
		}
	}
	p.states = append(p.states, then)
	return l
}

// asOf answers what a block was as of a number by what is kept, or else by what
// it is now.
func (p *store) asOf(s *Snap, block, n int) api.Old {
	if o, ok := s.Read(block, n); ok {
		return o
	}
	return p.states[len(p.states)-1][block]
}

// P17.2: what a block was as of n is what all commits up to n made of it; where
// nothing up to n is needed any more, Forget(n) changes no Read as of n or later.
func TestAsOf(t *testing.T) {
	c := chance(170)
	for range 200 {
		s, p := New(), &store{}
		state := make([]api.Old, 1+c.below(6))
		for block := range state {
			state[block] = nothing(block)
		}
		p.states = append(p.states, state)
		needed := 0
		for range 30 {
			s.Commit(p.change(&c))
			if c.below(3) == 0 {
				needed += c.below(s.Now() - needed + 1)
				s.Forget(needed)
			}
			for n := needed; n <= s.Now(); n++ {
				for block := range state {
					if got, want := p.asOf(s, block, n), p.states[n][block]; got != want {
						t.Fatalf("block %d as of %d of %d: %v, want %v", block, n, s.Now(), got, want)
					}
				}
			}
		}
	}
}

// P17.2: by hand: Forget(n) changes the Reads as of numbers below n, and none
// from n on.
func TestForgetChangesNoRead(t *testing.T) {
	for n := 0; n <= 4; n++ {
		s := commits([]api.Old{full(1, 1)}, []api.Old{full(2, 2)}, []api.Old{full(1, 3)}, []api.Old{full(2, 4)})
		type told struct {
			old api.Old
			ok  bool
		}
		var was []told
		for as := n; as <= 5; as++ {
			for block := range 4 {
				old, ok := s.Read(block, as)
				was = append(was, told{old, ok})
			}
		}
		s.Forget(n)
		for as := n; as <= 5; as++ {
			for block := range 4 {
				if old, ok := s.Read(block, as); (told{old, ok}) != was[(as-n)*4+block] {
					t.Errorf("Forget(%d): Read of %d as of %d: %v %v, want %v", n, block, as, old, ok, was[(as-n)*4+block])
				}
			}
		}
	}
}
