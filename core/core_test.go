package core

import (
	"slices"
	"testing"

	"windrow/api"
	"windrow/ckpt"
	"windrow/dev"
	"windrow/geom"
	"windrow/pool"
	"windrow/rec"
	"windrow/table"
)

// small has 8 blocks, of which a transaction writes at most 4; its sequential
// zones are 2 to 8.
var small = api.Geom{Conv: 2, Soft: 8, Seq: 7, Size: 8, Open: 3}

// numbers are a mast's that a core may have.
var numbers = api.Mast{Gen: 4, Epoch: 3, Seq: 100}

// fresh answers a core of a device on which but some zones are finished.
func fresh(t *testing.T, m api.Mast, finished ...int) (*dev.Device, *Core) {
	t.Helper()
	d := dev.New(small)
	for _, zone := range finished {
		do(t, "Finish", d.Finish(zone), api.OK)
	}
	return d, coreOf(t, d, small, m, table.New(geom.Blocks(small)))
}

// do holds that an error is the one that is wanted.
func do(t *testing.T, what string, e, want api.Errno) {
	t.Helper()
	if e != want {
		t.Fatalf("%s: %d, want %d", what, e, want)
	}
}

func put(block int, x byte) api.Write { return api.Write{Block: block, Data: api.Data{x}} }

func trim(block int) api.Write { return api.Write{Block: block, Trim: true} }

// commit holds that some writes are committed.
func commit(t *testing.T, c *Core, l ...api.Write) {
	t.Helper()
	do(t, "Commit", c.Commit(l), api.OK)
}

// reads holds that a block has data that begin with x.
func reads(t *testing.T, c *Core, block int, x byte) {
	t.Helper()
	want := api.Old{Block: block, Has: true, Data: api.Data{x}}
	if o, e := c.Read(block); e != api.OK || o != want {
		t.Fatalf("Read(%d): %v %d, want %v", block, o, e, want)
	}
}

// bare holds that a block is nothing.
func bare(t *testing.T, c *Core, block int) {
	t.Helper()
	if o, e := c.Read(block); e != api.OK || o != (api.Old{Block: block}) {
		t.Fatalf("Read(%d): %v %d, want nothing", block, o, e)
	}
}

// stands holds that a record stands at a place.
func stands(t *testing.T, d *dev.Device, zone, off int, want api.Rec) {
	t.Helper()
	p, e := d.Read(api.At{Zone: zone, Off: off})
	if e != api.OK {
		t.Fatalf("%d %d: %d", zone, off, e)
	}
	if r, e := rec.Read(p); e != api.OK || r != want {
		t.Fatalf("%d %d: %v %d, want %v", zone, off, r, e, want)
	}
}

// points holds how many sectors of the zones from 2 on are written.
func points(t *testing.T, d *dev.Device, want ...int) {
	t.Helper()
	for i, n := range want {
		if z := d.Zones()[2+i]; z.Point != n {
			t.Fatalf("zone %d has %d sectors, want %d", 2+i, z.Point, n)
		}
	}
}

// P19.1: a new core has what it was made of.
func TestNew(t *testing.T) {
	d, u := dev.New(small), table.New(8)
	do(t, "Write", d.Write(api.At{Zone: 4, Off: 0}, rec.Lay(api.Rec{Kind: api.Put, Epoch: 1, Seq: 7, Block: 7, Data: api.Data{77}})), api.OK)
	do(t, "Write", d.Write(api.At{Zone: 4, Off: 1}, rec.Lay(api.Rec{Kind: api.Put, Epoch: 2, Seq: 9, Block: 0})), api.OK)
	u.Set(7, 17)
	u.Set(0, 18)
	p, _ := pool.Open(small, d.Zones())
	c := New(d, small, api.Mast{Foot: true, Gen: 4, Epoch: 3, Seq: 100, Pages: 55, Sum: 66}, u, p)
	if m := c.Mast(); m != (api.Mast{Gen: 4, Epoch: 3, Seq: 100, Pages: 1}) {
		t.Error(m)
	}
	if l := c.Places(); !slices.Equal(l, []int{18, 0, 0, 0, 0, 0, 0, 17}) {
		t.Error(l)
	}
	if q := c.Pool(); !slices.Equal(q.Points, []int{0, 0, 2, 0, 0, 0, 0}) || q.Heads != [3]int{4, 0, 0} {
		t.Error(q)
	}
	for zone, want := range map[int]int{-1: 0, 0: 0, 2: 0, 3: 0, 4: 2, 5: 0, 8: 0, 9: 0} {
		if n := c.Live(zone); n != want {
			t.Errorf("Live(%d): %d", zone, n)
		}
	}
	if l := c.Cands(); len(l) != 0 {
		t.Error(l)
	}
	reads(t, c, 7, 77)
	reads(t, c, 0, 0)
	bare(t, c, 1)
	if d.Cached() != 2 || d.Illegal() != 0 {
		t.Error("New wrote to the device")
	}
}

// P19.1: a block that there isn't, and a device that is down.
func TestReadErrors(t *testing.T) {
	d, c := fresh(t, numbers)
	commit(t, c, put(0, 5))
	for _, block := range []int{-1, 8, -1 << 62, 1 << 62} {
		o, e := c.Read(block)
		do(t, "Read", e, api.ErrRange)
		if o != (api.Old{}) {
			t.Error(o)
		}
	}
	d.Arm(0)
	o, e := c.Read(0)
	do(t, "Read", e, api.ErrDown)
	if o != (api.Old{}) {
		t.Error(o)
	}
	_, e = c.Read(8)
	do(t, "Read", e, api.ErrRange)
	bare(t, c, 1)
}

// P19.2: the example; a commit's records, their places and numbers.
func TestCommitRecords(t *testing.T) {
	d, c := fresh(t, numbers)
	commit(t, c, put(0, 10))
	stands(t, d, 2, 0, api.Rec{Kind: api.Put, Epoch: 3, Seq: 101, Data: api.Data{10}})
	stands(t, d, 3, 0, api.Rec{Kind: api.Commit, Epoch: 3, Seq: 102, Count: 1})
	commit(t, c, api.Write{Block: 0, Trim: true, Data: api.Data{9}}, put(3, 13), trim(4), put(7, 17))
	stands(t, d, 3, 1, api.Rec{Kind: api.Trim, Epoch: 3, Seq: 103, Block: 0})
	stands(t, d, 2, 1, api.Rec{Kind: api.Put, Epoch: 3, Seq: 104, Block: 3, Data: api.Data{13}})
	stands(t, d, 3, 2, api.Rec{Kind: api.Trim, Epoch: 3, Seq: 105, Block: 4})
	stands(t, d, 2, 2, api.Rec{Kind: api.Put, Epoch: 3, Seq: 106, Block: 7, Data: api.Data{17}})
	stands(t, d, 3, 3, api.Rec{Kind: api.Commit, Epoch: 3, Seq: 107, Count: 4})
	points(t, d, 3, 4, 0, 0, 0, 0, 0)
	bare(t, c, 0)
	reads(t, c, 3, 13)
	bare(t, c, 4)
	reads(t, c, 7, 17)
	if l := c.Places(); !slices.Equal(l, []int{0, 0, 0, 2, 0, 0, 0, 3}) || c.Live(2) != 2 || c.Live(3) != 0 {
		t.Error(l, c.Live(2))
	}
	if m := c.Mast(); m != (api.Mast{Gen: 4, Epoch: 3, Seq: 107, Pages: 1}) {
		t.Error(m)
	}
	if d.Cached() != 7 {
		t.Error(d.Cached())
	}
}

// P19.2: a commit whose first record is a Trim may begin the zone of Log ahead
// of Hot's.
func TestCommitBeginsWithATrim(t *testing.T) {
	d, c := fresh(t, numbers)
	commit(t, c, trim(1), put(2, 2))
	stands(t, d, 2, 0, api.Rec{Kind: api.Trim, Epoch: 3, Seq: 101, Block: 1})
	stands(t, d, 3, 0, api.Rec{Kind: api.Put, Epoch: 3, Seq: 102, Block: 2, Data: api.Data{2}})
	stands(t, d, 2, 1, api.Rec{Kind: api.Commit, Epoch: 3, Seq: 103, Count: 2})
}

// P19.2: of several errors the first write's, and then the one named first; the
// device is sent nothing, be it down or not.
func TestCommitErrors(t *testing.T) {
	many := []api.Write{put(0, 1), put(1, 1), trim(2), trim(3), put(4, 1)}
	cases := []struct {
		what string
		l    []api.Write
		want api.Errno
	}{
		{"nothing", nil, api.OK},
		{"an empty list", []api.Write{}, api.OK},
		{"a block twice", []api.Write{put(1, 1), put(1, 2)}, api.ErrArg},
		{"a block below", []api.Write{put(2, 1), trim(1)}, api.ErrArg},
		{"no block below, first", []api.Write{put(-1, 1)}, api.ErrRange},
		{"no block below, later", []api.Write{put(0, 1), put(-1, 1)}, api.ErrArg},
		{"no block above", []api.Write{put(8, 1)}, api.ErrRange},
		{"no block above, a Trim", []api.Write{put(0, 1), trim(8)}, api.ErrRange},
		{"no block above, ahead of one twice", []api.Write{put(8, 1), put(8, 1)}, api.ErrRange},
		{"one twice, ahead of no block", []api.Write{put(1, 1), put(1, 1), put(8, 1)}, api.ErrArg},
		{"too many", many, api.ErrMany},
		{"too many, the last one no block", append(slices.Clone(many), put(9, 1)), api.ErrRange},
		{"too many, the last one twice", append(slices.Clone(many), put(4, 1)), api.ErrArg},
	}
	for _, m := range []api.Mast{numbers, {Gen: 4, Epoch: 3, Seq: api.MaxNum}} {
		for _, x := range cases {
			d, c := fresh(t, m)
			d.Arm(1)
			do(t, x.what, c.Commit(x.l), x.want)
			if d.Down() || c.Mast().Seq != m.Seq {
				t.Errorf("%s: something is done", x.what)
			}
			d.Arm(0)
			do(t, x.what+", down", c.Commit(x.l), x.want)
		}
	}
}

// P19.2: the most writes are let in, and the last block.
func TestCommitTheMost(t *testing.T) {
	d, c := fresh(t, numbers)
	commit(t, c, put(4, 1), put(5, 2), put(6, 3), put(7, 4))
	points(t, d, 4, 1, 0)
	reads(t, c, 7, 4)
}

// P19.2: there are as many numbers as MaxNum, and a commit takes one more than
// its writes.
func TestCommitNumbers(t *testing.T) {
	last := api.Mast{Gen: 1, Epoch: api.MaxNum, Seq: api.MaxNum - 3}
	_, c := fresh(t, last)
	do(t, "three", c.Commit([]api.Write{put(0, 1), trim(1), put(2, 1)}), api.ErrRoom)
	do(t, "two", c.Commit([]api.Write{put(0, 1), trim(1)}), api.OK)
	if m := c.Mast(); m.Seq != api.MaxNum {
		t.Error(m)
	}
	do(t, "one", c.Commit([]api.Write{trim(0)}), api.ErrRoom)
	do(t, "none", c.Commit(nil), api.OK)
	reads(t, c, 0, 1)
}

// P19.2: a commit without room does nothing, also where the device is down; as
// many zones stay free as must.
func TestCommitRoom(t *testing.T) {
	d, c := fresh(t, numbers, 2, 3, 4, 5, 6)
	do(t, "a put", c.Commit([]api.Write{put(0, 1)}), api.ErrRoom)
	points(t, d, 0, 0, 0, 0, 0, 0, 0)
	do(t, "a trim", c.Commit([]api.Write{trim(0)}), api.OK)
	do(t, "a put", c.Commit([]api.Write{put(0, 1)}), api.ErrRoom)
	do(t, "trims", c.Commit([]api.Write{trim(0), trim(1), trim(2), trim(3)}), api.OK)
	do(t, "the last of Log", c.Commit([]api.Write{trim(0)}), api.ErrRoom)
	points(t, d, 0, 0, 0, 0, 0, 7, 0)
	d.Arm(0)
	do(t, "down", c.Commit([]api.Write{trim(0)}), api.ErrRoom)

	d, c = fresh(t, numbers, 2, 3, 4, 5)
	commit(t, c, put(0, 1))
	points(t, d, 0, 0, 0, 0, 1, 1, 0)
	commit(t, c, put(0, 2), put(1, 2), put(2, 2), put(3, 2))
	do(t, "another zone of Hot", c.Commit([]api.Write{put(0, 3), put(1, 3), put(2, 3), put(3, 3)}), api.ErrRoom)
	commit(t, c, put(0, 4), put(1, 4), put(2, 4))
	reads(t, c, 3, 2)
	do(t, "Hot without a head", c.Commit([]api.Write{put(0, 5)}), api.ErrRoom)
	commit(t, c, trim(0), trim(1), trim(2))
	points(t, d, 0, 0, 0, 0, 8, 7, 0)
	do(t, "the last of Log", c.Commit(nil), api.OK)
	do(t, "more than the last of Log", c.Commit([]api.Write{trim(0)}), api.ErrRoom)
}

// P19.2: the device is flushed behind each record that uses its zone up, be it a
// Put, a Trim or a Commit, and not behind any other one.
func TestCommitFlushes(t *testing.T) {
	d, c := fresh(t, numbers)
	commit(t, c, put(0, 1), put(1, 1), put(2, 1), put(3, 1))
	commit(t, c, put(0, 2), put(1, 2), put(2, 2))
	if d.Cached() != 9 {
		t.Fatal(d.Cached())
	}
	d.Arm(4)
	do(t, "a put, a flush, another put and its Commit", c.Commit([]api.Write{put(0, 3), put(1, 3)}), api.OK)
	if !d.Down() || d.Cached() != 2 {
		t.Fatal(d.Down(), d.Cached())
	}

	d, c = fresh(t, numbers)
	commit(t, c, trim(0), trim(1), trim(2), trim(3))
	commit(t, c, trim(0))
	d.Arm(3)
	do(t, "the Trim that uses Log up is flushed", c.Commit([]api.Write{trim(0), trim(1)}), api.ErrDown)
	if d.Cached() != 1 || d.Zones()[2].State != api.Full {
		t.Fatal(d.Cached(), d.Zones())
	}

	d, c = fresh(t, numbers)
	commit(t, c, trim(0), trim(1), trim(2), trim(3))
	commit(t, c, trim(0), trim(1))
	if d.Cached() != 0 {
		t.Fatal(d.Cached())
	}
}

// P19.2: Flush is the device's.
func TestFlush(t *testing.T) {
	d, c := fresh(t, numbers)
	commit(t, c, put(0, 1))
	do(t, "Flush", c.Flush(), api.OK)
	if d.Cached() != 0 {
		t.Error(d.Cached())
	}
	d.Arm(0)
	do(t, "Flush", c.Flush(), api.ErrDown)
}

// P19.2: a device that goes down in the midst.
func TestCommitDown(t *testing.T) {
	for n := range 3 {
		d, c := fresh(t, numbers)
		d.Arm(n)
		do(t, "Commit", c.Commit([]api.Write{put(0, 1), trim(1)}), api.ErrDown)
		if d.Cached() != n {
			t.Error(d.Cached())
		}
	}
	d, c := fresh(t, numbers)
	d.Arm(3)
	do(t, "Commit", c.Commit([]api.Write{put(0, 1), trim(1)}), api.OK)
	if !d.Down() {
		t.Error("more than three commands")
	}
}

// P19.3: a checkpoint is the one that is picked then; it has the core's table
// and numbers.
func TestCheckpoint(t *testing.T) {
	d, c := fresh(t, numbers)
	commit(t, c, put(1, 1), put(7, 2))
	do(t, "Checkpoint", c.Checkpoint(), api.OK)
	m, u, e := ckpt.Pick(d, small)
	if e != api.OK || m != c.Mast() || m != (api.Mast{Gen: 5, Epoch: 3, Seq: 103, Pages: 1}) {
		t.Fatal(m, e)
	}
	if !slices.Equal(u.Places(), c.Places()) || u.Get(7) != 2 {
		t.Error(u.Places())
	}
	if d.Cached() != 0 {
		t.Error(d.Cached())
	}
	do(t, "Checkpoint", c.Checkpoint(), api.OK)
	if m, _, _ := ckpt.Pick(d, small); m.Gen != 6 || c.Mast().Gen != 6 {
		t.Error(m)
	}
}

// P19.3: there is no checkpoint behind the number MaxNum.
func TestCheckpointNumbers(t *testing.T) {
	d, c := fresh(t, api.Mast{Gen: api.MaxNum - 1, Epoch: api.MaxNum, Seq: api.MaxNum}, 2)
	do(t, "the last one", c.Checkpoint(), api.OK)
	if m := c.Mast(); m.Gen != api.MaxNum || d.Zones()[2].State != api.Empty {
		t.Error(m, d.Zones())
	}
	d, c = fresh(t, api.Mast{Gen: api.MaxNum, Epoch: 1}, 2)
	d.Arm(1)
	do(t, "one more", c.Checkpoint(), api.ErrRoom)
	if d.Down() || c.Mast().Gen != api.MaxNum || len(c.Cands()) != 1 {
		t.Error("something is done")
	}
	d.Arm(0)
	do(t, "one more, down", c.Checkpoint(), api.ErrRoom)
}

// P19.3: each zone that is used up, and has nothing live, is reset, one behind
// the other, when the checkpoint lasts; no other one.
func TestCheckpointResets(t *testing.T) {
	made := func() (*dev.Device, *Core) {
		d, c := fresh(t, numbers, 2, 6)
		commit(t, c, put(0, 1), put(1, 1), put(2, 1), put(3, 1))
		commit(t, c, put(0, 2), put(1, 2), put(2, 2))
		commit(t, c, put(4, 3))
		commit(t, c, put(0, 4), put(1, 4), put(2, 4), put(3, 4))
		return d, c
	}
	d, c := made()
	// Zone 3 is used up, and block 4 is live there; 4 is Log's, and 5 Hot's: none
	// of these is reset, nor is one that is unused.
	do(t, "Checkpoint", c.Checkpoint(), api.OK)
	points(t, d, 0, 8, 4, 4, 0, 0, 0)
	if l := c.Cands(); !slices.Equal(l, []api.Cand{{Zone: 3, Live: 1, Age: 6}}) {
		t.Error(l)
	}
	if p := c.Pool(); !slices.Equal(p.Points, []int{0, 8, 4, 4, 0, 0, 0}) || p.Heads != [3]int{5, 0, 4} {
		t.Error(p)
	}

	// Flush, head, leaf, foot, Flush: then the zones.
	for n := range 8 {
		d, c = made()
		d.Arm(n)
		e, first, second := api.ErrDown, api.Full, api.Full
		if n >= 6 {
			first = api.Empty
		}
		if n == 7 {
			e, second = api.OK, api.Empty
		}
		do(t, "Checkpoint", c.Checkpoint(), e)
		if d.Zones()[2].State != first || d.Zones()[6].State != second {
			t.Errorf("behind %d commands: %v", n, d.Zones())
		}
	}
}

// P19.3: a zone that was reset is used anew, and has the age of its last record
// then.
func TestCandsAges(t *testing.T) {
	d, c := fresh(t, numbers, 3, 8)
	want := func(l ...api.Cand) {
		t.Helper()
		if got := c.Cands(); !slices.Equal(got, l) {
			t.Fatalf("%v, want %v", got, l)
		}
	}
	want(api.Cand{Zone: 3}, api.Cand{Zone: 8})
	commit(t, c, put(0, 1), put(1, 1), put(2, 1))
	want(api.Cand{Zone: 3, Age: 4}, api.Cand{Zone: 8, Age: 4})
	commit(t, c, put(3, 1), put(4, 1), put(5, 1), put(6, 1))
	commit(t, c, trim(5), put(6, 2), put(7, 2))
	want(api.Cand{Zone: 2, Live: 6, Age: 2}, api.Cand{Zone: 3, Age: 13}, api.Cand{Zone: 8, Age: 13})
	do(t, "Checkpoint", c.Checkpoint(), api.OK)
	want(api.Cand{Zone: 2, Live: 6, Age: 2})
	points(t, d, 8, 0, 4, 1)
	for range 3 {
		commit(t, c, put(0, 3))
	}
	// The Commit of these that come now uses up Log's zone 4, by its last record.
	commit(t, c, put(0, 4))
	want(api.Cand{Zone: 2, Live: 5, Age: 10}, api.Cand{Zone: 4})
	commit(t, c, put(0, 5))
	commit(t, c, put(0, 6), put(1, 6))
	want(api.Cand{Zone: 2, Live: 4, Age: 15}, api.Cand{Zone: 4, Age: 5}, api.Cand{Zone: 5, Live: 3, Age: 1})
	if q := c.Pool(); q.Heads != [3]int{0, 0, 3} {
		t.Error(q)
	}
}

// P19.3: what is live in a zone is moved, in the order of its sectors, as it is.
func TestMove(t *testing.T) {
	d, c := fresh(t, numbers)
	commit(t, c, put(3, 1), put(5, 1), put(6, 1), put(7, 1))
	commit(t, c, put(1, 1), put(2, 1), put(5, 2))
	commit(t, c, put(0, 3), put(1, 3))
	commit(t, c, trim(6))
	// In zone 2 stand 3, 7, 2, 5 and 0; in zone 4 stands 1.
	if c.Live(2) != 5 || c.Live(4) != 1 {
		t.Fatal(c.Live(2), c.Live(4))
	}
	blocks := read(t, c)
	do(t, "Move", c.Move(2), api.OK)
	first := 100 + 5 + 4 + 3 + 2
	for i, block := range []int{3, 7, 2, 5, 0} {
		stands(t, d, 5, i, api.Rec{Kind: api.Put, Epoch: 3, Seq: first + 1 + i, Block: block, Data: blocks[block].Data})
	}
	stands(t, d, 3, 5, api.Rec{Kind: api.Commit, Epoch: 3, Seq: first + 6, Block: 1, Count: 5})
	if l := read(t, c); !slices.Equal(l, blocks) {
		t.Error(l)
	}
	if c.Live(2) != 0 || c.Live(5) != 5 || c.Mast().Seq != first+6 || c.Pool().Heads != [3]int{4, 5, 3} {
		t.Error(c.Live(2), c.Live(5), c.Mast(), c.Pool())
	}
	do(t, "Checkpoint", c.Checkpoint(), api.OK)
	points(t, d, 0, 6, 1, 5, 0)
	if l := read(t, c); !slices.Equal(l, blocks) {
		t.Error(l)
	}
}

// read answers all blocks.
func read(t *testing.T, c *Core) []api.Old {
	t.Helper()
	l := make([]api.Old, 8)
	for block := range l {
		o, e := c.Read(block)
		do(t, "Read", e, api.OK)
		l[block] = o
	}
	return l
}

// P19.3: a zone that isn't used up, or all of which is live, isn't moved; nor is
// any without room, or numbers.
func TestMoveErrors(t *testing.T) {
	d, c := fresh(t, numbers)
	commit(t, c, put(0, 1), put(1, 1), put(2, 1), put(3, 1))
	commit(t, c, put(4, 1), put(5, 1), put(6, 1), put(7, 1))
	d.Arm(1)
	for _, zone := range []int{-1, 0, 1, 2, 3, 4, 8, 9, 1 << 62} {
		do(t, "Move", c.Move(zone), api.ErrArg)
	}
	if d.Down() {
		t.Fatal("something is done")
	}
	d.Arm(0)
	do(t, "Move of one all of which is live, down", c.Move(2), api.ErrArg)
	do(t, "Move of Log's, down", c.Move(3), api.ErrArg)
}

// half answers a core on whose zone 2, which is used up, stands block 0 alone.
func half(t *testing.T, m api.Mast, finished ...int) (*dev.Device, *Core) {
	t.Helper()
	d, u := dev.New(small), table.New(8)
	do(t, "Write", d.Write(api.At{Zone: 2, Off: 0}, rec.Lay(api.Rec{Kind: api.Put, Epoch: 1, Seq: 1, Data: api.Data{9}})), api.OK)
	for _, zone := range append([]int{2}, finished...) {
		do(t, "Finish", d.Finish(zone), api.OK)
	}
	u.Set(0, 1)
	return d, coreOf(t, d, small, m, u)
}

// P19.3: a Move asks for numbers of all that is live, and one more; also where
// nothing is.
func TestMoveNumbers(t *testing.T) {
	_, c := half(t, api.Mast{Gen: 1, Epoch: 1, Seq: api.MaxNum - 1}, 3)
	do(t, "two records", c.Move(2), api.ErrRoom)
	do(t, "one record", c.Move(3), api.OK)
	_, c = half(t, api.Mast{Gen: 1, Epoch: 1, Seq: api.MaxNum - 2}, 3)
	do(t, "two records", c.Move(2), api.OK)
	if m := c.Mast(); m.Seq != api.MaxNum {
		t.Error(m)
	}
	do(t, "one record", c.Move(3), api.ErrRoom)
	do(t, "none is used up", c.Move(4), api.ErrArg)
	reads(t, c, 0, 9)
}

// P19.3: a Move asks for room of Cold and of Log; also where nothing is live.
// Then it does nothing, and the device may be down.
func TestMoveRoom(t *testing.T) {
	d, c := half(t, numbers, 3, 4, 5, 6, 7)
	do(t, "no zone for Log", c.Move(2), api.ErrRoom)
	d.Arm(1)
	do(t, "nothing to move", c.Move(3), api.OK)
	if d.Down() || c.Mast().Seq != 100 || c.Pool().Heads != [3]int{} {
		t.Error("something is done")
	}
	d.Arm(0)
	do(t, "no zone for Log, down", c.Move(2), api.ErrRoom)
	do(t, "nothing to move, down", c.Move(3), api.OK)

	_, c = half(t, numbers, 3, 4, 5, 6, 7, 8)
	do(t, "no zone for a Commit of nothing", c.Move(3), api.ErrRoom)

	d, c = half(t, numbers, 3, 4, 5, 6)
	do(t, "two zones", c.Move(2), api.OK)
	points(t, d, 1, 0, 0, 0, 0, 1, 1)
	reads(t, c, 0, 9)
}

// P19.3: a Move of a device that goes down.
func TestMoveDown(t *testing.T) {
	for n := range 2 {
		d, c := half(t, numbers)
		d.Arm(n)
		do(t, "Move", c.Move(2), api.ErrDown)
	}
	d, c := half(t, numbers)
	d.Arm(2)
	do(t, "Move", c.Move(2), api.OK)
	if !d.Down() {
		t.Error("more than two commands")
	}
}

// P19.5: what a core is made of may be changed then, and isn't by the core.
func TestNewIsHandedCopies(t *testing.T) {
	d, u := dev.New(small), table.New(8)
	p, _ := pool.Open(small, d.Zones())
	c := New(d, small, numbers, u, p)
	p.Points[0] = 5
	u.Set(3, 33)
	bare(t, c, 3)
	commit(t, c, put(0, 1))
	if !slices.Equal(c.Places(), []int{1, 0, 0, 0, 0, 0, 0, 0}) || !slices.Equal(c.Pool().Points, []int{1, 1, 0, 0, 0, 0, 0}) {
		t.Error(c.Places(), c.Pool())
	}
	if u.Get(0) != 0 || u.Count() != 1 || !slices.Equal(p.Points, []int{5, 0, 0, 0, 0, 0, 0}) {
		t.Error("what was handed in is changed")
	}
	do(t, "Checkpoint", c.Checkpoint(), api.OK)
	if len(u.Dirty()) != 1 {
		t.Error("what was handed in is changed")
	}
}

// P19.5: so may what a core was asked to write, and what it answers.
func TestNewMemory(t *testing.T) {
	_, c := fresh(t, numbers)
	l := []api.Write{put(0, 1), {Block: 1, Trim: true, Data: api.Data{7}}, put(2, 3)}
	was := slices.Clone(l)
	commit(t, c, l...)
	do(t, "Commit", c.Commit(l), api.OK)
	if !slices.Equal(l, was) {
		t.Error("what was handed in is changed")
	}
	l[0].Data[0] = 99
	c.Places()[0] = 44
	c.Pool().Points[1] = 7
	if !slices.Equal(c.Places(), []int{3, 0, 4, 0, 0, 0, 0, 0}) || !slices.Equal(c.Pool().Points, []int{4, 4, 0, 0, 0, 0, 0}) {
		t.Error(c.Places(), c.Pool())
	}
	reads(t, c, 0, 1)
	commit(t, c, put(0, 1), put(1, 1), put(2, 1), put(3, 3))
	c.Cands()[0].Zone = 9
	if x := c.Cands()[0].Zone; x != 2 {
		t.Error(x)
	}
}

// P19.4: the greatest measure too: commits of the most blocks, zone by zone, and
// a Move of almost a whole zone.
func TestGreatMeasure(t *testing.T) {
	g := api.Geom{Conv: 2, Soft: 413, Seq: 62, Size: api.MaxSize, Open: 3}
	k := pairOf(t, g, api.Mast{Gen: 1, Epoch: 1})
	c := chance(5)
	for first := 0; first < 4096; first += 128 {
		var l []api.Write
		for i := range 128 {
			l = append(l, put(first+i, byte(c.below(256))))
		}
		do(t, "Commit", k.c.Commit(l), k.p.commit(l))
	}
	l := []api.Write{put(0, 1), trim(4095)}
	do(t, "Commit", k.c.Commit(l), k.p.commit(l))
	do(t, "Move", k.c.Move(2), k.p.move(2))
	do(t, "Checkpoint", k.c.Checkpoint(), k.p.checkpoint())
	k.same(t)
	k.right(t)
	sameDevice(t, k.d, k.p.d, g)
	if k.c.Mast().Seq != 32*129+3+256 || k.d.Zones()[2].State != api.Empty {
		t.Error(k.c.Mast())
	}
}

// Nothing is promised of cores that aren't right; but none of their calls
// panics, and what isn't a block's record is never told as if it were.
func TestWrongCores(t *testing.T) {
	d := dev.New(small)
	do(t, "Write", d.Write(api.At{Zone: 2, Off: 0}, rec.Lay(api.Rec{Kind: api.Put, Epoch: 1, Seq: 1, Block: 5})), api.OK)
	do(t, "Write", d.Write(api.At{Zone: 2, Off: 1}, rec.Lay(api.Rec{Kind: api.Trim, Epoch: 1, Seq: 2, Block: 1})), api.OK)
	do(t, "Write", d.Write(api.At{Zone: 2, Off: 2}, api.Page{1}), api.OK)
	u := table.New(8)
	for block, place := range []int{1, 2, 3, 4, 999} {
		u.Set(block, place)
	}
	c := coreOf(t, d, small, numbers, u)
	for block, want := range []api.Errno{api.ErrBytes, api.ErrBytes, api.ErrSum, api.ErrPlace, api.ErrBytes, api.OK} {
		o, e := c.Read(block)
		do(t, "Read", e, want)
		if e != api.OK && o != (api.Old{}) {
			t.Error(o)
		}
	}
	do(t, "Finish", d.Finish(2), api.OK)
	c = coreOf(t, d, small, numbers, u)
	do(t, "Move of what isn't the blocks'", c.Move(2), api.ErrBytes)

	// Two streams write to one zone: there is room for what is asked, one by one,
	// but not in the order in which it would be written.
	d = dev.New(small)
	p := api.Pool{Points: []int{6, 0, 0, 0, 0, 0, 0}, Heads: [3]int{2, 0, 2}}
	c = New(d, small, numbers, table.New(8), p)
	d.Arm(1)
	do(t, "Commit", c.Commit([]api.Write{trim(0), put(1, 1)}), api.ErrRoom)
	if d.Down() || c.Mast().Seq != 100 {
		t.Error("something is done")
	}
}

// Measures and tables that aren't right make a core without blocks, or with
// fewer; no call panics.
func TestWrongMeasures(t *testing.T) {
	for _, g := range []api.Geom{{}, {Conv: -1, Seq: -5, Size: -9}, {Conv: 1, Seq: 99, Size: 1 << 40}} {
		c := New(dev.New(small), g, api.Mast{}, table.New(3), api.Pool{})
		c.Commit([]api.Write{put(0, 1)})
		c.Read(0)
		c.Move(2)
		c.Checkpoint()
		c.Cands()
		c.Live(2)
		c.Places()
		c.Pool()
		c.Mast()
	}
}
