package core

import (
	"testing"

	"windrow/api"
	"windrow/ckpt"
	"windrow/dev"
	"windrow/geom"
	"windrow/rec"
	"windrow/table"
)

// plain is the chapter's words, in lists that are walked over, on a device of
// its own.
type plain struct {
	d      *dev.Device
	g      api.Geom
	m      api.Mast
	places []api.At   // of each block; Zone 0: nowhere
	data   []api.Data // of each block
	used   []int      // of each zone, the conventional ones too
	heads  [api.Streams]int
	ends   []int // of each zone the number of its last record
}

// plainOf answers the words of a device on which nothing was written.
func plainOf(g api.Geom, m api.Mast) *plain {
	return &plain{
		d:      dev.New(g),
		g:      g,
		m:      m,
		places: make([]api.At, geom.Blocks(g)),
		data:   make([]api.Data, geom.Blocks(g)),
		used:   make([]int, g.Conv+g.Seq),
		ends:   make([]int, g.Conv+g.Seq),
	}
}

// again is a new core: zones that are begun are given to the streams anew.
func (p *plain) again() {
	p.heads = [api.Streams]int{}
	stream := 0
	for zone := p.g.Conv; zone < len(p.used); zone++ {
		p.ends[zone] = p.m.Seq
		if p.d.Zones()[zone].State == api.Full {
			p.used[zone] = p.g.Size
		} else if p.used[zone] > 0 {
			p.heads[stream] = zone
			stream++
		}
	}
}

func (p *plain) isFree(zone int) bool {
	return zone >= p.g.Conv && p.used[zone] == 0 && zone != p.heads[0] && zone != p.heads[1] && zone != p.heads[2]
}

func (p *plain) free() int {
	n := 0
	for zone := range p.used {
		if p.isFree(zone) {
			n++
		}
	}
	return n
}

// next answers the next place of a stream, and uses it.
func (p *plain) next(stream int) (api.At, bool) {
	for zone := 0; p.heads[stream] == 0 && zone < len(p.used); zone++ {
		if p.isFree(zone) {
			p.heads[stream] = zone
		}
	}
	zone := p.heads[stream]
	if zone == 0 {
		return api.At{}, false
	}
	p.used[zone]++
	if p.used[zone] == p.g.Size {
		p.heads[stream] = 0
	}
	return api.At{Zone: zone, Off: p.used[zone] - 1}, true
}

// try answers a copy whose zones can be handed out without a loss.
func (p *plain) try() *plain {
	c := *p
	c.used = append([]int(nil), p.used...)
	return &c
}

// takes tells whether n places of a stream, and then logs of Log, can be handed
// out.
func (p *plain) takes(stream, n, logs int) bool {
	for range n {
		if _, ok := p.next(stream); !ok {
			return false
		}
	}
	for range logs {
		if _, ok := p.next(api.Log); !ok {
			return false
		}
	}
	return true
}

func (p *plain) fits(puts, others int) bool {
	c := p.try()
	if !c.takes(api.Hot, puts, others) {
		return false
	}
	if c.heads[api.Log] != 0 {
		return c.free() >= 1
	}
	return c.free() >= 2
}

func (p *plain) live(zone int) int {
	n := 0
	for _, a := range p.places {
		if a.Zone == zone && zone != 0 {
			n++
		}
	}
	return n
}

// put writes a record behind all others, and tells where.
func (p *plain) put(stream int, r api.Rec) (api.At, api.Errno) {
	a, _ := p.next(stream)
	p.m.Seq++
	r.Epoch, r.Seq = p.m.Epoch, p.m.Seq
	e := p.d.Write(a, rec.Lay(r))
	if e == api.OK && p.used[a.Zone] == p.g.Size {
		p.ends[a.Zone] = p.m.Seq
		e = p.d.Flush()
	}
	return a, e
}

func (p *plain) write(l []api.Write, stream, whose int) api.Errno {
	at := make([]api.At, len(l))
	for i, w := range l {
		to, r := stream, api.Rec{Kind: api.Put, Block: w.Block, Data: w.Data}
		if w.Trim {
			to, r = api.Log, api.Rec{Kind: api.Trim, Block: w.Block}
		}
		a, e := p.put(to, r)
		if e != api.OK {
			return e
		}
		at[i] = a
	}
	if _, e := p.put(api.Log, api.Rec{Kind: api.Commit, Block: whose, Count: len(l)}); e != api.OK {
		return e
	}
	for i, w := range l {
		p.places[w.Block], p.data[w.Block] = at[i], w.Data
		if w.Trim {
			p.places[w.Block], p.data[w.Block] = api.At{}, api.Data{}
		}
	}
	return api.OK
}

func (p *plain) commit(l []api.Write) api.Errno {
	if len(l) == 0 {
		return api.OK
	}
	ahead, puts := -1<<62, 0
	for _, w := range l {
		if w.Block <= ahead {
			return api.ErrArg
		}
		if w.Block < 0 || w.Block >= len(p.places) {
			return api.ErrRange
		}
		ahead = w.Block
		if !w.Trim {
			puts++
		}
	}
	if len(l) > p.g.Size/2 {
		return api.ErrMany
	}
	if !p.fits(puts, len(l)-puts+1) || p.m.Seq+len(l)+1 > 1<<40 {
		return api.ErrRoom
	}
	return p.write(l, api.Hot, 0)
}

func (p *plain) move(zone int) api.Errno {
	if zone < p.g.Conv || zone >= len(p.used) || p.used[zone] < p.g.Size || p.live(zone) == p.g.Size {
		return api.ErrArg
	}
	if !p.try().takes(api.Cold, p.live(zone), 1) || p.m.Seq+p.live(zone)+1 > 1<<40 {
		return api.ErrRoom
	}
	var l []api.Write
	for off := range p.g.Size {
		for block, a := range p.places {
			if a == (api.At{Zone: zone, Off: off}) {
				l = append(l, api.Write{Block: block, Data: p.data[block]})
			}
		}
	}
	if l == nil {
		return api.OK
	}
	return p.write(l, api.Cold, 1)
}

func (p *plain) checkpoint() api.Errno {
	if p.m.Gen == 1<<40 {
		return api.ErrRoom
	}
	m := p.m
	m.Gen++
	if e := ckpt.Write(p.d, p.g, m, p.table()); e != api.OK {
		return e
	}
	p.m.Gen++
	for zone := range p.used {
		if p.used[zone] < p.g.Size || p.live(zone) > 0 {
			continue
		}
		if e := p.d.Reset(zone); e != api.OK {
			return e
		}
		p.used[zone] = 0
	}
	return api.OK
}

// number tells a place's number.
func (p *plain) number(a api.At) int {
	if a.Zone == 0 {
		return 0
	}
	return (a.Zone-p.g.Conv)*p.g.Size + a.Off + 1
}

func (p *plain) table() *table.Table {
	t := table.New(len(p.places))
	for block, a := range p.places {
		t.Set(block, p.number(a))
	}
	return t
}

func (p *plain) cands() []api.Cand {
	var l []api.Cand
	for zone := p.g.Conv; zone < len(p.used); zone++ {
		if p.used[zone] == p.g.Size {
			l = append(l, api.Cand{Zone: zone, Live: p.live(zone), Age: p.m.Seq - p.ends[zone]})
		}
	}
	return l
}

// blocks answers what all blocks are.
func (p *plain) blocks() []api.Old {
	l := make([]api.Old, len(p.places))
	for block, a := range p.places {
		l[block] = api.Old{Block: block, Has: a.Zone != 0, Data: p.data[block]}
	}
	return l
}

// sameDevice holds that two devices are the same, as far as they tell.
func sameDevice(t *testing.T, d, want *dev.Device, g api.Geom) {
	t.Helper()
	if d.Illegal() != 0 {
		t.Fatalf("%d commands were illegal", d.Illegal())
	}
	if d.Down() != want.Down() || d.Cached() != want.Cached() {
		t.Fatalf("down %v, %d cached; want %v, %d", d.Down(), d.Cached(), want.Down(), want.Cached())
	}
	for zone, z := range d.Zones() {
		if z != want.Zones()[zone] {
			t.Fatalf("zone %d: %v, want %v", zone, z, want.Zones()[zone])
		}
		n := z.Point
		if zone < g.Conv {
			n = g.Soft
		}
		for off := range n {
			a := api.At{Zone: zone, Off: off}
			got, e := d.Read(a)
			page, f := want.Read(a)
			if e != f || got != page {
				t.Fatalf("sector %v: %v %d, want %v %d", a, got, e, page, f)
			}
		}
	}
}
