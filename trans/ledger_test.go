package trans

import (
	"math"
	"slices"
	"testing"

	"windrow/api"
)

// begun is a ledger in which transactions have begun at those numbers.
func begun(t *testing.T, at ...int) api.Ledger {
	t.Helper()
	var l api.Ledger
	for i, now := range at {
		m, id, e := Begin(l, now)
		if id != i || e != api.OK {
			t.Fatalf("Begin at %d: %d %d, want %d 0", now, id, e, i)
		}
		l = m
	}
	return l
}

// full is a ledger in which as many are open as may be, each with two writes.
func full(t *testing.T) api.Ledger {
	t.Helper()
	var at []int
	for i := range api.MaxTrans {
		at = append(at, 100-i)
	}
	l := begun(t, at...)
	for i := range l.Open {
		l = Set(l, api.Trans{Id: i, Begin: 100 - i, Writes: []api.Write{put(i, 1), put(i+1, 2)}})
	}
	return l
}

// dropped is a ledger without some transactions.
func dropped(t *testing.T, l api.Ledger, ids ...int) api.Ledger {
	t.Helper()
	for _, id := range ids {
		m, e := Drop(l, id)
		if e != api.OK {
			t.Fatalf("Drop of %d: %d", id, e)
		}
		l = m
	}
	return l
}

func sameTrans(a, b api.Trans) bool {
	return a.Id == b.Id && a.Begin == b.Begin && slices.Equal(a.Writes, b.Writes)
}

func sameLedger(a, b api.Ledger) bool {
	return a.Next == b.Next && slices.EqualFunc(a.Open, b.Open, sameTrans)
}

// copied answers a ledger that shares nothing with the one it is of.
func copied(l api.Ledger) api.Ledger {
	l.Open = slices.Clone(l.Open)
	for i := range l.Open {
		l.Open[i].Writes = slices.Clone(l.Open[i].Writes)
	}
	return l
}

// ids holds which handles are open.
func ids(t *testing.T, l api.Ledger, next int, want ...int) {
	t.Helper()
	var got []int
	for _, x := range l.Open {
		got = append(got, x.Id)
	}
	if l.Next != next || !slices.Equal(got, want) {
		t.Errorf("Next %d, open %v, want %d and %v", l.Next, got, next, want)
	}
}

// P18.2: Begin answers handles that rise from 0, transactions begun at what was
// handed in, without writes.
func TestBegin(t *testing.T) {
	l := begun(t, 5, 3, 0, 3, math.MaxInt)
	ids(t, l, 5, 0, 1, 2, 3, 4)
	for i, now := range []int{5, 3, 0, 3, math.MaxInt} {
		x, e := Get(l, i)
		if e != api.OK || !sameTrans(x, api.Trans{Id: i, Begin: now}) {
			t.Errorf("Get of %d: %v %d, want begun at %d, without writes", i, x, e, now)
		}
	}
}

// P18.2: Begin leaves those that are open as they are.
func TestBeginKeeps(t *testing.T) {
	l := dropped(t, full(t), 3)
	m, id, e := Begin(l, 9)
	if id != api.MaxTrans || e != api.OK {
		t.Fatalf("Begin: %d %d", id, e)
	}
	last := len(m.Open) - 1
	if m.Next != l.Next+1 || !slices.EqualFunc(m.Open[:last], l.Open, sameTrans) {
		t.Errorf("Begin changed what was open: %v, was %v", m, l)
	}
	if !sameTrans(m.Open[last], api.Trans{Id: id, Begin: 9}) {
		t.Errorf("Begin: %v", m.Open[last])
	}
}

// P18.2: as many as MaxTrans may be open, and one more may not: the ledger is as
// it was then.
func TestBeginMany(t *testing.T) {
	l := full(t)
	m, id, e := Begin(l, 9)
	if id != 0 || e != api.ErrMany || !sameLedger(m, l) {
		t.Errorf("Begin of one more: %v %d %d", m, id, e)
	}
	m, id, e = Begin(dropped(t, m, 4), 9)
	if id != api.MaxTrans || e != api.OK || len(m.Open) != api.MaxTrans {
		t.Errorf("Begin behind a Drop: %d %d", id, e)
	}
	n, id, e := Begin(m, 9)
	if id != 0 || e != api.ErrMany || !sameLedger(n, m) {
		t.Errorf("Begin of one more again: %v %d %d", n, id, e)
	}
}

// P18.2: what counts is how many are open, not how many have been.
func TestBeginNext(t *testing.T) {
	for _, next := range []int{15, 16, 17, 1 << 40} {
		l, id, e := Begin(api.Ledger{Next: next}, 2)
		if id != next || e != api.OK || !sameLedger(l, api.Ledger{Next: next + 1, Open: []api.Trans{{Id: next, Begin: 2}}}) {
			t.Errorf("Begin of the handle %d: %v %d %d", next, l, id, e)
		}
	}
}

// P18.2: Get of handles that are open, that have been, and that have yet to be.
func TestGet(t *testing.T) {
	l := dropped(t, full(t), 0, 7, 15)
	for id := range api.MaxTrans {
		x, e := Get(l, id)
		if id == 0 || id == 7 || id == 15 {
			if e != api.ErrHandle || !sameTrans(x, api.Trans{}) {
				t.Errorf("Get of %d that isn't open: %v %d", id, x, e)
			}
			continue
		}
		want := api.Trans{Id: id, Begin: 100 - id, Writes: []api.Write{put(id, 1), put(id+1, 2)}}
		if e != api.OK || !sameTrans(x, want) {
			t.Errorf("Get of %d: %v %d, want %v", id, x, e, want)
		}
	}
	for _, id := range []int{math.MinInt, -1, 16, 17, math.MaxInt} {
		for _, l := range []api.Ledger{l, {}, {Next: 3}, {Next: 3, Open: []api.Trans{}}} {
			if x, e := Get(l, id); e != api.ErrHandle || !sameTrans(x, api.Trans{}) {
				t.Errorf("Get of %d: %v %d", id, x, e)
			}
		}
	}
}

// P18.2: Set puts a transaction in the place of that of its handle, all of it,
// and leaves the others.
func TestSet(t *testing.T) {
	l := dropped(t, full(t), 5)
	for i, was := range l.Open {
		x := api.Trans{Id: was.Id, Begin: 55, Writes: []api.Write{trim(3), put(8, 8), put(9, 9)}}
		want := copied(l)
		want.Open[i] = x
		if m := Set(l, x); !sameLedger(m, want) {
			t.Errorf("Set of %d: %v, want %v", x.Id, m, want)
		}
	}
	if m := Set(begun(t, 4), api.Trans{}); !sameLedger(m, api.Ledger{Next: 1, Open: []api.Trans{{}}}) {
		t.Errorf("Set of an empty one: %v", m)
	}
}

// P18.2: Set of a handle that isn't open does nothing.
func TestSetNone(t *testing.T) {
	l := dropped(t, full(t), 0, 5, 15)
	for _, id := range []int{math.MinInt, -1, 0, 5, 15, 16, 17, math.MaxInt} {
		for _, l := range []api.Ledger{l, {}, {Next: 20}} {
			if m := Set(l, api.Trans{Id: id, Begin: 3, Writes: []api.Write{put(1, 1)}}); !sameLedger(m, l) {
				t.Errorf("Set of %d, which isn't open: %v, was %v", id, m, l)
			}
		}
	}
}

// P18.2: Drop takes out the one of its handle, the first one, the last one, one in
// the midst; Next stays.
func TestDrop(t *testing.T) {
	l := full(t)
	for id := range api.MaxTrans {
		m, e := Drop(l, id)
		want := copied(l)
		want.Open = slices.Delete(want.Open, id, id+1)
		if e != api.OK || !sameLedger(m, want) {
			t.Errorf("Drop of %d: %v %d, want %v", id, m, e, want)
		}
	}
	ids(t, dropped(t, begun(t, 1, 2, 3), 1), 3, 0, 2)
	ids(t, dropped(t, begun(t, 1, 2, 3), 2, 0), 3, 1)
	ids(t, dropped(t, begun(t, 1, 2, 3), 1, 2, 0), 3)
}

// P18.2: Drop of a handle that isn't open, or isn't any more: the ledger is as it
// was.
func TestDropNone(t *testing.T) {
	l := dropped(t, full(t), 0, 5, 15)
	for _, id := range []int{math.MinInt, -1, 0, 5, 15, 16, 17, math.MaxInt} {
		for _, l := range []api.Ledger{l, {}, {Next: 20}} {
			if m, e := Drop(l, id); e != api.ErrHandle || !sameLedger(m, l) {
				t.Errorf("Drop of %d, which isn't open: %v %d, was %v", id, m, e, l)
			}
		}
	}
}

// P18.2: Oldest tells the least Begin wherever it stands, whatever is handed in;
// only if none is open, what is handed in.
func TestOldest(t *testing.T) {
	for _, now := range []int{math.MinInt, -1, 0, 3, 1 << 40, math.MaxInt} {
		for _, at := range [][]int{{3, 5, 9}, {5, 3, 9}, {9, 5, 3}, {3}, {3, 3}} {
			if got := Oldest(begun(t, at...), now); got != 3 {
				t.Errorf("Oldest of %v at %d: %d, want 3", at, now, got)
			}
		}
		for _, l := range []api.Ledger{{}, {Next: 5}, {Next: 5, Open: []api.Trans{}}} {
			if got := Oldest(l, now); got != now {
				t.Errorf("Oldest of none at %d: %d", now, got)
			}
		}
		if got := Oldest(begun(t, 0, 4), now); got != 0 {
			t.Errorf("Oldest of 0 and 4 at %d: %d, want 0", now, got)
		}
	}
	l := begun(t, 3, 5, 4)
	if got := Oldest(dropped(t, l, 0), 9); got != 4 {
		t.Errorf("Oldest behind a Drop: %d, want 4", got)
	}
	if got := Oldest(dropped(t, l, 0, 1, 2), 9); got != 9 {
		t.Errorf("Oldest behind all Drops: %d, want 9", got)
	}
}

// P18.3: no handle is given twice, whatever has been dropped.
func TestHandles(t *testing.T) {
	var l api.Ledger
	c := chance(18)
	for want := range 2000 {
		for len(l.Open) == api.MaxTrans || len(l.Open) > 0 && c.below(3) == 0 {
			l = dropped(t, l, l.Open[c.below(len(l.Open))].Id)
		}
		m, id, e := Begin(l, 1)
		if id != want || e != api.OK {
			t.Fatalf("Begin: %d %d, want %d 0", id, e, want)
		}
		l = m
	}
}

// roomy is a ledger like full with one dropped, with room in all arrays, in which
// something stands.
func roomy(t *testing.T) api.Ledger {
	t.Helper()
	l := dropped(t, full(t), 5)
	for i := range l.Open {
		n := len(l.Open[i].Writes)
		l.Open[i].Writes = append(slices.Clone(l.Open[i].Writes), put(77, 7), put(78, 7))[:n]
	}
	n := len(l.Open)
	l.Open = append(slices.Clone(l.Open), api.Trans{Id: 77}, api.Trans{Id: 78})[:n]
	return l
}

// wide answers a ledger with all that its arrays have room for.
func wide(l api.Ledger) api.Ledger {
	l.Open = slices.Clone(l.Open[:cap(l.Open)])
	for i, x := range l.Open {
		l.Open[i].Writes = x.Writes[:cap(x.Writes)]
	}
	return l
}

// spoilLedger makes other things of all that the arrays of a ledger have room for.
func spoilLedger(l *api.Ledger) {
	all := l.Open[:cap(l.Open)]
	for i := range all {
		spoil(&all[i])
		all[i] = api.Trans{Id: 99, Begin: 99}
	}
}

// calls are the calls that answer a ledger, those that do something and those
// that don't.
func calls() []func(api.Ledger) api.Ledger {
	begin := func(l api.Ledger) api.Ledger { m, _, _ := Begin(l, 3); return m }
	many := func(l api.Ledger) api.Ledger {
		l.Open = append(slices.Clone(l.Open), api.Trans{Id: 16})
		return begin(l)
	}
	set := func(id int) func(api.Ledger) api.Ledger {
		return func(l api.Ledger) api.Ledger { return Set(l, api.Trans{Id: id, Writes: []api.Write{put(1, 1)}}) }
	}
	drop := func(id int) func(api.Ledger) api.Ledger {
		return func(l api.Ledger) api.Ledger { m, _ := Drop(l, id); return m }
	}
	return []func(api.Ledger) api.Ledger{begin, many, set(0), set(5), set(9), set(15), drop(0), drop(5), drop(9), drop(15)}
}

// P18.4: what is handed in stays, also what stands behind it in its arrays; what
// is answered has none of its memory, at no depth, also where nothing is done.
func TestLedgerMemory(t *testing.T) {
	for i, call := range calls() {
		l := roomy(t)
		was := copied(wide(l))
		m := call(l)
		if !sameLedger(wide(l), was) {
			t.Fatalf("call %d wrote what was handed in", i)
		}
		spoilLedger(&m)
		if !sameLedger(wide(l), was) {
			t.Fatalf("what call %d answered has memory of what was handed in", i)
		}
	}
}

// P18.4: what Set is given, it keeps nothing of.
func TestSetMemory(t *testing.T) {
	all := []api.Write{put(1, 1), put(2, 2), put(3, 3)}
	was := slices.Clone(all)
	x := api.Trans{Id: 1, Begin: 5, Writes: all[:2]}
	l := Set(begun(t, 4, 5), x)
	all[0] = put(9, 9)
	if got, _ := Get(l, 1); !slices.Equal(got.Writes, was[:2]) {
		t.Errorf("Get behind a change of what was set: %v", got)
	}
	all[0] = was[0]
	spoilLedger(&l)
	if !slices.Equal(all, was) {
		t.Errorf("what Set was given is another one: %v", all)
	}
}

// P18.4: what Get answers isn't the ledger's own.
func TestGetMemory(t *testing.T) {
	l := roomy(t)
	was := copied(wide(l))
	for _, id := range []int{0, 9, 15} {
		x, e := Get(l, id)
		if e != api.OK || len(x.Writes) != 2 {
			t.Fatalf("Get of %d: %v %d", id, x, e)
		}
		x.Begin = 99
		spoil(&x)
		if !sameLedger(wide(l), was) {
			t.Fatalf("what Get of %d answered is the ledger's own", id)
		}
	}
}

// P18.4: no two lists of one answer share memory: what is done to one of them, or
// put behind it, isn't seen in another.
func TestApart(t *testing.T) {
	for i, call := range calls() {
		for j := range call(roomy(t)).Open {
			m := call(roomy(t))
			was := copied(m)
			spoil(&m.Open[j])
			for k := range m.Open {
				if k != j && !sameTrans(m.Open[k], was.Open[k]) {
					t.Fatalf("call %d: the writes of %d are those of %d", i, j, k)
				}
			}
		}
	}
}
