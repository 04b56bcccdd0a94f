package scan

import (
	"slices"
	"testing"

	"windrow/api"
	"windrow/dev"
)

// written is a log on a device: its records, in the order in which they were
// written, numbered one by one behind start.
type written struct {
	d     *dev.Device
	g     api.Geom
	epoch int
	start int
	log   []api.Found
}

// next writes the next record, at a zone's pointer.
func (w *written) next(t *testing.T, zone int) {
	t.Helper()
	w.log = append(w.log, put(t, w.d, w.g, zone, w.epoch, w.start+len(w.log)+1))
}

// beginning holds that of a log, of whose records these are left, just those
// ahead of the first one that isn't left are chained, behind each of them too.
func (w *written) beginning(t *testing.T, d *dev.Device, left func(i int) bool) int {
	t.Helper()
	n := 0
	for n < len(w.log) && left(n) {
		n++
	}
	all, e := All(d, w.g, w.epoch, w.start)
	must(t, e)
	for ahead := range n + 1 {
		seq := w.start + ahead
		if got := Chain(all, seq); !slices.Equal(got, w.log[ahead:n]) {
			t.Fatalf("Chain behind %d: %v, want %v", seq, got, w.log[ahead:n])
		}
		if got := Last(all, seq); got != w.start+n {
			t.Fatalf("Last behind %d: %d, want %d", seq, got, w.start+n)
		}
	}
	return n
}

// ways answers all rows of so many numbers below most.
func ways(length, most int) [][]int {
	if length == 0 {
		return [][]int{nil}
	}
	var all [][]int
	for _, row := range ways(length-1, most) {
		for n := range most {
			all = append(all, append(slices.Clone(row), n))
		}
	}
	return all
}

// ranks tells of each record of a row how many ahead of it went to its zone.
func ranks(zones []int) []int {
	var l []int
	count := map[int]int{}
	for _, zone := range zones {
		l = append(l, count[zone])
		count[zone]++
	}
	return l
}

// P14.3: of all logs of a few records in three zones, behind each crash.
func TestEachBeginning(t *testing.T) {
	times := [6]int{}
	for _, zones := range ways(5, 3) {
		w := &written{d: dev.New(small), g: small, epoch: 4, start: 30}
		for _, zone := range zones {
			w.next(t, small.Conv+zone)
		}
		rank := ranks(zones)
		for _, keep := range ways(3, 6) {
			d := w.d.Clone()
			d.Crash(api.Wreck{Keep: keep})
			n := w.beginning(t, d, func(i int) bool { return rank[i] < keep[zones[i]] })
			times[n]++
		}
	}
	if slices.Contains(times[:], 0) {
		t.Errorf("so often so many records are told: %v", times)
	}
}

// P14.3: a record is lost in one zone, a later one stands in another zone: it
// counts for nothing; nor does it when records of a later epoch are written.
func TestLaterOneIsLeft(t *testing.T) {
	w := &written{d: dev.New(small), g: small, epoch: 1, start: 0}
	for _, zone := range []int{2, 3, 2, 3} {
		w.next(t, zone)
	}
	w.d.Crash(api.Wreck{Keep: []int{1, 2}})
	told(t, "left", w.d, small, 1, 0, []api.Found{w.log[0], w.log[1], w.log[3]})
	if n := w.beginning(t, w.d, func(i int) bool { return i != 2 }); n != 2 {
		t.Errorf("%d records are chained", n)
	}
	later := &written{d: w.d, g: small, epoch: 2, start: 2}
	later.next(t, 2)
	told(t, "later", w.d, small, 2, 2, later.log)
	later.beginning(t, w.d, func(int) bool { return true })
	w.beginning(t, w.d, func(i int) bool { return i != 2 })
}

// P14.3: on walks, behind crashes of whatever kind, torn sectors too, just a
// beginning of the log is told, and none that was flushed is lost; behind each
// one a new epoch goes on with the log, over what earlier ones have left.
func TestWalkOfCrashes(t *testing.T) {
	for seed, g := range measures()[:4] {
		c, d := chance(50+seed), dev.New(g)
		w := &written{d: d, g: g, epoch: 1}
		lost, all := 0, 0
		for range 600 {
			flushed := w.row(t, &c)
			n := w.crashed(t, &c, flushed)
			lost += len(w.log) - n
			all += n
			w.follow(t, n, &c)
		}
		if lost < 300 || all < 2000 {
			t.Errorf("%v: %d records are told, %d lost", g, all, lost)
		}
	}
}

// row writes records into three zones, and answers how many of all last.
func (w *written) row(t *testing.T, c *chance) int {
	t.Helper()
	flushed := 0
	for range c.below(2 * w.g.Size) {
		zone := w.g.Conv + c.below(3)
		if w.d.Zones()[zone].State == api.Full {
			continue
		}
		w.next(t, zone)
		if c.below(6) == 0 {
			must(t, w.d.Flush())
			flushed = len(w.log)
		}
	}
	return flushed
}

// crashed lets the device crash, and holds what is told then: the zones' pointers
// tell which records are left; a torn one is none, but if all of it is left.
func (w *written) crashed(t *testing.T, c *chance, flushed int) int {
	t.Helper()
	wreck := api.Wreck{Tear: c.below(70) - 3}
	for range c.below(5) {
		wreck.Keep = append(wreck.Keep, c.below(9)-1)
	}
	w.d.Crash(wreck)
	zones := w.d.Zones()
	n := w.beginning(t, w.d, func(i int) bool {
		ahead := w.log[i].Place - 1
		a := api.At{Zone: w.g.Conv + ahead/w.g.Size, Off: ahead % w.g.Size}
		p, e := w.d.Read(a)
		return a.Off < zones[a.Zone].Point && e == api.OK && p == laid(w.log[i].Rec)
	})
	if n < flushed {
		t.Fatalf("%d records are told, %d were flushed", n, flushed)
	}
	return n
}

// laid lays a right record by the library's means.
func laid(r api.Rec) api.Page {
	p := sector(r.Kind, r.Epoch, r.Seq, r.Block, r.Count)
	copy(p[25:57], r.Data[:])
	return summed(p)
}

// follow begins a new epoch behind the first n records; at times it resets one
// of the zones, and it resets those that are full.
func (w *written) follow(t *testing.T, n int, c *chance) {
	t.Helper()
	for i := range 3 {
		if zone := w.g.Conv + i; w.d.Zones()[zone].State == api.Full || c.below(6) == 0 {
			must(t, w.d.Reset(zone))
		}
	}
	w.epoch, w.start, w.log = w.epoch+1, w.start+n, nil
}
