package trans

import (
	"testing"

	"windrow/api"
)

// lines are a ledger word by word: all that has been begun, in order, and of each
// what was put, in order.
type lines struct {
	begun []line
}

type line struct {
	now  int
	open bool
	puts []api.Write
}

func (w *lines) count() int {
	n := 0
	for _, l := range w.begun {
		if l.open {
			n++
		}
	}
	return n
}

// of answers the line of a handle; nil, if it isn't open.
func (w *lines) of(id int) *line {
	if id < 0 || id >= len(w.begun) || !w.begun[id].open {
		return nil
	}
	return &w.begun[id]
}

// write answers what was put last of a block.
func (l *line) write(block int) (api.Write, bool) {
	var last api.Write
	found := false
	for _, w := range l.puts {
		if w.Block == block {
			last, found = w, true
		}
	}
	if last.Trim {
		last.Data = api.Data{}
	}
	return last, found
}

// trans answers the transaction of a line, as of the blocks below a number.
func (l *line) trans(id, blocks int) api.Trans {
	t := api.Trans{Id: id, Begin: l.now}
	for block := range blocks {
		if w, found := l.write(block); found {
			t.Writes = append(t.Writes, w)
		}
	}
	return t
}

func (w *lines) ledger(blocks int) api.Ledger {
	l := api.Ledger{Next: len(w.begun)}
	for id := range w.begun {
		if w.begun[id].open {
			l.Open = append(l.Open, w.begun[id].trans(id, blocks))
		}
	}
	return l
}

func (w *lines) oldest(now int) int {
	least, found := now, false
	for _, l := range w.begun {
		if l.open && (!found || l.now < least) {
			least, found = l.now, true
		}
	}
	return least
}

// same holds a ledger against the lines, in all that it tells of the blocks below
// a number.
func same(t *testing.T, l api.Ledger, w *lines, blocks int) {
	t.Helper()
	if want := w.ledger(blocks); !sameLedger(l, want) {
		t.Fatalf("the ledger is %v, want %v", l, want)
	}
	for _, now := range []int{0, 2, 50} {
		if got := Oldest(l, now); got != w.oldest(now) {
			t.Fatalf("Oldest at %d: %d, want %d", now, got, w.oldest(now))
		}
	}
	for id := -1; id <= len(w.begun); id++ {
		x, e := Get(l, id)
		line := w.of(id)
		if line == nil {
			if e != api.ErrHandle || !sameTrans(x, api.Trans{}) {
				t.Fatalf("Get of %d, which isn't open: %v %d", id, x, e)
			}
			continue
		}
		if e != api.OK {
			t.Fatalf("Get of %d: %d", id, e)
		}
		samePuts(t, x, line, blocks)
	}
}

// samePuts holds what Find and Puts tell of a transaction against its line.
func samePuts(t *testing.T, x api.Trans, line *line, blocks int) {
	t.Helper()
	n := 0
	for block := -1; block <= blocks; block++ {
		got, ok := Find(x, block)
		want, found := line.write(block)
		if got != want || ok != found {
			t.Fatalf("Find of %d: %v %v, want %v %v", block, got, ok, want, found)
		}
		if found && !want.Trim {
			n++
		}
	}
	if Puts(x) != n {
		t.Fatalf("Puts: %d, want %d", Puts(x), n)
	}
}

// begin does a Begin in both.
func begin(t *testing.T, l api.Ledger, w *lines, now int) api.Ledger {
	t.Helper()
	m, id, e := Begin(l, now)
	if w.count() == api.MaxTrans {
		if id != 0 || e != api.ErrMany {
			t.Fatalf("Begin of one too many: %d %d", id, e)
		}
		return m
	}
	if id != len(w.begun) || e != api.OK {
		t.Fatalf("Begin: %d %d, want %d", id, e, len(w.begun))
	}
	w.begun = append(w.begun, line{now: now, open: true})
	return m
}

// drop does a Drop in both.
func drop(t *testing.T, l api.Ledger, w *lines, id int) api.Ledger {
	t.Helper()
	m, e := Drop(l, id)
	line := w.of(id)
	if line == nil {
		if e != api.ErrHandle {
			t.Fatalf("Drop of %d, which isn't open: %d", id, e)
		}
		return m
	}
	if e != api.OK {
		t.Fatalf("Drop of %d: %d", id, e)
	}
	line.open = false
	return m
}

// write does a Put in both; of a handle that isn't open, Set is given it all the
// same, and does nothing.
func write(l api.Ledger, w *lines, id int, p api.Write) api.Ledger {
	x, _ := Get(l, id)
	line := w.of(id)
	if line == nil {
		x.Id = id
	} else {
		line.puts = append(line.puts, p)
	}
	return Set(l, Put(x, p))
}

// P18.1, P18.2, P18.3: over all walks of five moves.
func TestAllWalks(t *testing.T) {
	const moves = 9
	count := 1
	for range 5 {
		count *= moves
	}
	for walk := range count {
		var l api.Ledger
		w := &lines{}
		for rest, i := walk, 0; i < 5; i++ {
			switch m := rest % moves; m {
			case 0, 1:
				l = begin(t, l, w, 5-i*m)
			case 2, 3, 4:
				l = drop(t, l, w, m-2)
			default:
				p := put(m%2, byte(i))
				p.Trim = walk&(1<<i) != 0
				l = write(l, w, m/7, p)
			}
			rest /= moves
		}
		same(t, l, w, 2)
	}
}

// P18.1, P18.2, P18.3: over all orders in which five blocks may be put, twice each
// at most.
func TestAllPuts(t *testing.T) {
	const blocks = 5
	count := 1
	for range 6 {
		count *= blocks
	}
	for walk := range count {
		x, line := api.Trans{}, &line{}
		for rest, i := walk, 0; i < 6; i++ {
			p := put(rest%blocks, byte(i+1))
			p.Trim = (walk>>i)%3 == 0
			rest /= blocks
			x = Put(x, p)
			line.puts = append(line.puts, p)
		}
		if want := line.trans(0, blocks); !sameTrans(x, want) {
			t.Fatalf("%v, want %v", x, want)
		}
		samePuts(t, x, line, blocks)
	}
}

// P18.1, P18.2, P18.3: over long walks by chance, in which as many are open as may
// be.
func TestLongWalks(t *testing.T) {
	c := chance(118)
	for range 150 {
		var l api.Ledger
		w := &lines{}
		blocks := 1 + c.below(40)
		for range 120 {
			switch id := c.below(len(w.begun) + 1); c.below(6) {
			case 0, 1:
				l = begin(t, l, w, c.below(100))
			case 2:
				if c.below(3) == 0 {
					l = drop(t, l, w, id)
				}
			default:
				p := put(c.below(blocks), byte(c.below(256)))
				p.Trim = c.below(3) == 0
				l = write(l, w, id, p)
			}
		}
		same(t, l, w, blocks)
	}
}
