package rec

import (
	"encoding/binary"
	"hash/crc32"
	"math"
	"testing"

	"windrow/api"
)

// chance answers numbers that follow no simple pattern, the same in each run.
type chance uint64

func (c *chance) below(n int) int {
	*c = *c*6364136223846793005 + 1442695040888963407
	return int(uint64(*c) >> 33 % uint64(n))
}

func (c *chance) data() api.Data {
	var d api.Data
	for i := range d {
		d[i] = byte(c.below(256))
	}
	return d
}

// number answers a number of records or epochs: small, great, or one between.
func (c *chance) number() int {
	switch c.below(3) {
	case 0:
		return 1 + c.below(5)
	case 1:
		return api.MaxNum - c.below(5)
	}
	return 1 + c.below(1<<20)<<c.below(20)
}

// right answers a right record.
func (c *chance) right() api.Rec {
	r := api.Rec{Kind: 1 + c.below(3), Epoch: c.number(), Seq: c.number(), Block: c.below(api.MaxBlock)}
	switch r.Kind {
	case api.Put:
		r.Data = c.data()
	case api.Commit:
		r.Block, r.Count = r.Block%2, c.below(api.MaxBlock+1)
	}
	return r
}

// sealed answers p with the right sum at its end.
func sealed(p api.Page) api.Page {
	binary.LittleEndian.PutUint32(p[60:], crc32.ChecksumIEEE(p[:60]))
	return p
}

// fields are what a sector holds of a record, each as wide as it is laid.
type fields struct {
	kind         byte
	epoch, seq   uint64
	block, count uint32
	data         api.Data
	rest         [3]byte
}

// of answers the fields of a record.
func of(r api.Rec) fields {
	return fields{kind: byte(r.Kind), epoch: uint64(r.Epoch), seq: uint64(r.Seq), block: uint32(r.Block), count: uint32(r.Count), data: r.Data}
}

// sector lays fields as the chapter says, by the library's means.
func sector(f fields) api.Page {
	b := []byte{f.kind}
	b = binary.LittleEndian.AppendUint64(b, f.epoch)
	b = binary.LittleEndian.AppendUint64(b, f.seq)
	b = binary.LittleEndian.AppendUint32(b, f.block)
	b = binary.LittleEndian.AppendUint32(b, f.count)
	b = append(b, f.data[:]...)
	b = append(b, f.rest[:]...)
	return sealed(api.Page(append(b, 0, 0, 0, 0)))
}

var last = api.Data{31: 1}

// edges holds right records at each edge of each field.
var edges = []api.Rec{
	{Kind: api.Put, Epoch: 1, Seq: 1},
	{Kind: api.Put, Epoch: 1, Seq: 1, Data: api.Data{1, 2, 3}},
	{Kind: api.Put, Epoch: 1, Seq: 1, Block: api.MaxBlock - 1, Data: last},
	{Kind: api.Put, Epoch: api.MaxNum, Seq: 1},
	{Kind: api.Put, Epoch: 1, Seq: api.MaxNum},
	{Kind: api.Trim, Epoch: 1, Seq: 1},
	{Kind: api.Trim, Epoch: 1, Seq: 1, Block: api.MaxBlock - 1},
	{Kind: api.Trim, Epoch: api.MaxNum, Seq: api.MaxNum, Block: 1},
	{Kind: api.Commit, Epoch: 1, Seq: 1},
	{Kind: api.Commit, Epoch: 1, Seq: 1, Block: 1},
	{Kind: api.Commit, Epoch: 1, Seq: 1, Count: api.MaxBlock},
	{Kind: api.Commit, Epoch: api.MaxNum, Seq: api.MaxNum, Block: 1, Count: api.MaxBlock},
}

// wrongs holds records each of which is wrong in one thing.
var wrongs = []api.Rec{
	{},
	{Kind: 0, Epoch: 1, Seq: 1},
	{Kind: -1, Epoch: 1, Seq: 1},
	{Kind: 4, Epoch: 1, Seq: 1},
	{Kind: 128, Epoch: 1, Seq: 1},
	{Kind: 255, Epoch: 1, Seq: 1},
	{Kind: 256 + api.Put, Epoch: 1, Seq: 1},
	{Kind: math.MaxInt, Epoch: 1, Seq: 1},
	{Kind: math.MinInt + api.Put, Epoch: 1, Seq: 1},
	{Kind: api.Put, Epoch: 0, Seq: 1},
	{Kind: api.Put, Epoch: -1, Seq: 1},
	{Kind: api.Put, Epoch: api.MaxNum + 1, Seq: 1},
	{Kind: api.Put, Epoch: math.MaxInt, Seq: 1},
	{Kind: api.Put, Epoch: math.MinInt, Seq: 1},
	{Kind: api.Put, Epoch: 1, Seq: 0},
	{Kind: api.Put, Epoch: 1, Seq: -1},
	{Kind: api.Put, Epoch: 1, Seq: api.MaxNum + 1},
	{Kind: api.Put, Epoch: 1, Seq: math.MaxInt},
	{Kind: api.Put, Epoch: 1, Seq: math.MinInt},
	{Kind: api.Put, Epoch: 1, Seq: 1, Block: -1},
	{Kind: api.Put, Epoch: 1, Seq: 1, Block: api.MaxBlock},
	{Kind: api.Put, Epoch: 1, Seq: 1, Block: math.MaxInt},
	{Kind: api.Put, Epoch: 1, Seq: 1, Block: math.MinInt},
	{Kind: api.Put, Epoch: 1, Seq: 1, Count: 1},
	{Kind: api.Put, Epoch: 1, Seq: 1, Count: -1},
	{Kind: api.Trim, Epoch: 0, Seq: 1},
	{Kind: api.Trim, Epoch: api.MaxNum + 1, Seq: 1},
	{Kind: api.Trim, Epoch: 1, Seq: 0},
	{Kind: api.Trim, Epoch: 1, Seq: api.MaxNum + 1},
	{Kind: api.Trim, Epoch: 1, Seq: 1, Block: -1},
	{Kind: api.Trim, Epoch: 1, Seq: 1, Block: api.MaxBlock},
	{Kind: api.Trim, Epoch: 1, Seq: 1, Count: 1},
	{Kind: api.Trim, Epoch: 1, Seq: 1, Count: -1},
	{Kind: api.Trim, Epoch: 1, Seq: 1, Data: api.Data{1}},
	{Kind: api.Trim, Epoch: 1, Seq: 1, Data: last},
	{Kind: api.Commit, Epoch: 0, Seq: 1},
	{Kind: api.Commit, Epoch: api.MaxNum + 1, Seq: 1},
	{Kind: api.Commit, Epoch: 1, Seq: 0},
	{Kind: api.Commit, Epoch: 1, Seq: api.MaxNum + 1},
	{Kind: api.Commit, Epoch: 1, Seq: 1, Block: -1},
	{Kind: api.Commit, Epoch: 1, Seq: 1, Block: 2},
	{Kind: api.Commit, Epoch: 1, Seq: 1, Block: api.MaxBlock - 1},
	{Kind: api.Commit, Epoch: 1, Seq: 1, Count: -1},
	{Kind: api.Commit, Epoch: 1, Seq: 1, Count: api.MaxBlock + 1},
	{Kind: api.Commit, Epoch: 1, Seq: 1, Data: api.Data{1}},
	{Kind: api.Commit, Epoch: 1, Seq: 1, Data: last},
}

// P6.1: which records are right.
func TestRight(t *testing.T) {
	for _, r := range edges {
		if !Right(r) {
			t.Errorf("%v is right", r)
		}
	}
	for _, r := range wrongs {
		if Right(r) {
			t.Errorf("%v is wrong", r)
		}
	}
}

// P6.1: a sector, written out by hand but for its sum.
func TestLayByHand(t *testing.T) {
	r := api.Rec{Kind: api.Put, Epoch: 0x0807060504, Seq: 0x0d0c0b0a09, Block: 0x0908, Data: api.Data{0x41, 0x42, 31: 0x43}}
	p := sealed(api.Page{
		0: 1,
		1: 0x04, 2: 0x05, 3: 0x06, 4: 0x07, 5: 0x08,
		9: 0x09, 10: 0x0a, 11: 0x0b, 12: 0x0c, 13: 0x0d,
		17: 0x08, 18: 0x09,
		25: 0x41, 26: 0x42, 56: 0x43,
	})
	if got := Lay(r); got != p {
		t.Errorf("% x, want % x", got, p)
	}
	if got, e := Read(p); got != r || e != api.OK {
		t.Errorf("%v %d", got, e)
	}
	c := api.Rec{Kind: api.Commit, Epoch: 1, Seq: 258, Block: 1, Count: 4096}
	q := sealed(api.Page{0: 3, 1: 1, 9: 2, 10: 1, 17: 1, 22: 16})
	if got := Lay(c); got != q {
		t.Errorf("% x, want % x", got, q)
	}
	if got, e := Read(q); got != c || e != api.OK {
		t.Errorf("%v %d", got, e)
	}
}

// P6.1, P6.2: what was laid is where the chapter says, and is read as it was.
func TestLaidIsRead(t *testing.T) {
	l, c := append([]api.Rec{}, edges...), chance(6)
	for range 5000 {
		l = append(l, c.right())
	}
	for _, r := range l {
		p := Lay(r)
		if want := sector(of(r)); p != want {
			t.Fatalf("%v: % x, want % x", r, p, want)
		}
		if got, e := Read(p); got != r || e != api.OK {
			t.Fatalf("%v: read as %v, %d", r, got, e)
		}
	}
}

// P6.1: each bit of a sector that is turned makes its sum wrong.
func TestReadOfTurnedBits(t *testing.T) {
	for _, r := range edges {
		for i := range api.Sector * 8 {
			p := Lay(r)
			p[i/8] ^= 1 << (i % 8)
			if got, e := Read(p); got != (api.Rec{}) || e != api.ErrSum {
				t.Fatalf("%v, bit %d: %v %d", r, i, got, e)
			}
		}
	}
}

// refused holds that p, whose sum is right, is no record's sector, and that a
// wrong sum is told first.
func refused(t *testing.T, p api.Page) {
	t.Helper()
	if got, e := Read(p); got != (api.Rec{}) || e != api.ErrBytes {
		t.Errorf("% x: %v %d", p, got, e)
	}
	p[60]++
	if got, e := Read(p); got != (api.Rec{}) || e != api.ErrSum {
		t.Errorf("% x: %v %d, its sum being wrong", p, got, e)
	}
}

// P6.1: what is wrong as a record is wrong as a sector.
func TestReadOfWrongRecords(t *testing.T) {
	for _, r := range wrongs {
		// Others are cut to right ones where they are laid.
		if r.Kind >= 0 && r.Kind < 256 && r.Block != math.MinInt {
			refused(t, sector(of(r)))
		}
	}
	for kind := range 256 {
		if kind < api.Put || kind > api.Commit {
			refused(t, sector(fields{kind: byte(kind), epoch: 1, seq: 1}))
		}
	}
}

// P6.1: numbers that no field of a record holds, but the bytes of a sector do;
// each bit of a number counts.
func TestReadOfGreatNumbers(t *testing.T) {
	for _, r := range edges {
		for i := 41; i < 64; i++ {
			f := of(r)
			f.epoch |= 1 << i
			refused(t, sector(f))
			f = of(r)
			f.seq |= 1 << i
			refused(t, sector(f))
		}
		for i := 13; i < 32; i++ {
			f := of(r)
			f.block |= 1 << i
			refused(t, sector(f))
			f = of(r)
			f.count |= 1 << i
			refused(t, sector(f))
		}
	}
}

// P6.1, P6.2: where noughts should stand, nothing else does: a record has but
// one sector.
func TestReadOfWhatIsNoNought(t *testing.T) {
	for _, r := range edges {
		for i := range 24 {
			f := of(r)
			f.rest[i/8] = 1 << (i % 8)
			refused(t, sector(f))
		}
		for i := range api.Block * 8 {
			f := of(r)
			f.data[i/8] ^= 1 << (i % 8)
			if r.Kind != api.Put {
				refused(t, sector(f))
			} else if got, e := Read(sector(f)); got.Data != f.data || e != api.OK {
				t.Errorf("%v: %v %d", f, got, e)
			}
		}
	}
}

// P6.1: sectors that nobody laid.
func TestReadOfForeignSectors(t *testing.T) {
	foreign := []api.Page{{}, {0: 1}, {63: 1}}
	var ones api.Page
	for i := range ones {
		ones[i] = 0xff
	}
	for _, p := range append(foreign, ones) {
		if got, e := Read(p); got != (api.Rec{}) || e != api.ErrSum {
			t.Errorf("% x: %v %d", p, got, e)
		}
		refused(t, sealed(p))
	}
}

// P6.1: a sector of which a crash left only the first bytes.
func TestReadOfTornSectors(t *testing.T) {
	p := Lay(api.Rec{Kind: api.Put, Epoch: 3, Seq: 300, Block: 7, Data: api.Data{1, 2, 31: 9}})
	for n := range api.Sector {
		var torn api.Page
		copy(torn[:], p[:n])
		if got, e := Read(torn); got != (api.Rec{}) || e != api.ErrSum {
			t.Errorf("%d bytes: %v %d", n, got, e)
		}
	}
}

// P6.2: what is read was laid in one way, whatever stands in the sector.
func TestReadIsLaidInOneWay(t *testing.T) {
	c, held := chance(62), 0
	for range 40000 {
		f := of(c.right())
		switch c.below(8) {
		case 0:
			f.kind = byte(c.below(5))
		case 1:
			f.epoch = uint64(c.below(2)) << c.below(64)
		case 2:
			f.seq = uint64(c.below(2)) << c.below(64)
		case 3:
			f.block = uint32(c.below(2)) << c.below(32)
		case 4:
			f.count = uint32(c.below(2)) << c.below(32)
		case 5:
			f.data = c.data()
		case 6:
			f.rest[c.below(3)] = byte(c.below(2))
		}
		p := sector(f)
		r, e := Read(p)
		if want := isRecord(f); want != (e == api.OK) {
			t.Fatalf("%v: %d", f, e)
		}
		if e == api.OK {
			held++
			if of(r) != f || Lay(r) != p || !Right(r) {
				t.Fatalf("%v: read as %v", f, r)
			}
		} else if r != (api.Rec{}) || e != api.ErrBytes {
			t.Fatalf("%v: %v %d", f, r, e)
		}
	}
	if held < 10000 || held > 36000 {
		t.Errorf("%d sectors held", held)
	}
}

// isRecord tells whether fields are a right record's, by the chapter's words.
func isRecord(f fields) bool {
	number := func(n uint64) bool { return n >= 1 && n <= 1<<40 }
	if !number(f.epoch) || !number(f.seq) || f.rest != [3]byte{} {
		return false
	}
	if f.kind != 1 && f.data != (api.Data{}) {
		return false
	}
	switch f.kind {
	case 1, 2:
		return f.block <= 4095 && f.count == 0
	case 3:
		return f.block <= 1 && f.count <= 4096
	}
	return false
}

// P6.2: unlike records have unlike sectors.
func TestUnlikeRecords(t *testing.T) {
	c, by := chance(63), map[api.Page]api.Rec{}
	l := append([]api.Rec{}, edges...)
	for range 3000 {
		r := c.right()
		l = append(l, r)
		for _, n := range near(r) {
			if Right(n) {
				l = append(l, n)
			}
		}
	}
	for _, r := range l {
		p := Lay(r)
		if o, ok := by[p]; ok && o != r {
			t.Fatalf("%v and %v have one sector", o, r)
		}
		by[p] = r
	}
}

// near answers records that differ from r in one field.
func near(r api.Rec) []api.Rec {
	l := []api.Rec{}
	for kind := api.Put; kind <= api.Commit; kind++ {
		n := r
		n.Kind = kind
		l = append(l, n)
	}
	for i := range 40 {
		n, m, o, q := r, r, r, r
		n.Epoch ^= 1 << i
		m.Seq ^= 1 << i
		o.Block ^= 1 << i
		q.Count ^= 1 << i
		l = append(l, n, m, o, q)
	}
	for i := range r.Data {
		n := r
		n.Data[i] ^= 0x80
		l = append(l, n)
	}
	return l
}

// P1: no call panics, whatever the record.
func TestLayOfWrongRecords(t *testing.T) {
	for _, r := range wrongs {
		Read(Lay(r))
	}
	n := math.MinInt
	Read(Lay(api.Rec{Kind: n, Epoch: n, Seq: n, Block: n, Count: n}))
	n = math.MaxInt
	Read(Lay(api.Rec{Kind: n, Epoch: n, Seq: n, Block: n, Count: n}))
}
