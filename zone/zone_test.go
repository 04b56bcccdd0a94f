package zone

import (
	"math"
	"slices"
	"testing"

	"windrow/api"
	"windrow/geom"
)

// least is the smallest right measure; its sequential zones are 2 to 7.
func least() api.Geom { return api.Geom{Conv: 2, Soft: 4, Seq: 6, Size: 8, Open: 3} }

// measures answers right measures of several kinds: all zones may be open in
// one of them, and most are conventional in another.
func measures() []api.Geom {
	return []api.Geom{
		least(),
		{Conv: 3, Soft: 12, Seq: 8, Size: 13, Open: 4},
		{Conv: 58, Soft: 9, Seq: 6, Size: 8, Open: 3},
		{Conv: 2, Soft: 5, Seq: 6, Size: 9, Open: math.MaxInt},
		{Conv: 2, Soft: 413, Seq: 62, Size: 256, Open: 61},
	}
}

// far holds numbers beyond all zones, sectors and states.
func far() []int {
	return []int{-1, -2, -64, math.MinInt, math.MinInt + 1, 257, 1 << 16, 1<<16 + 1, 1 << 32, math.MaxInt - 1, math.MaxInt}
}

// rightOnes answers every state and pointer that a sequential zone may have.
func rightOnes(size int) []api.Zone {
	l := []api.Zone{{State: api.Empty}, {State: api.Open}, {State: api.Full}}
	for point := 1; point < size; point++ {
		for _, state := range []int{api.Open, api.Closed, api.Full} {
			l = append(l, api.Zone{State: state, Point: point})
		}
	}
	return append(l, api.Zone{State: api.Full, Point: size})
}

// zonesWith answers zones whose first sequential one is z; so many of those
// behind it are open.
func zonesWith(g api.Geom, z api.Zone, open int) []api.Zone {
	l := New(g)
	l[g.Conv] = z
	for i := range open {
		l[g.Conv+1+i] = api.Zone{State: api.Open, Point: i}
	}
	return l
}

// command is one of the package's, of a zone; Write and Read are of its sector
// off.
type command struct {
	name string
	do   func(g api.Geom, l []api.Zone, zone, off int) ([]api.Zone, api.Errno)
}

// ofZone makes a command of a function that knows no sectors.
func ofZone(f func(api.Geom, []api.Zone, int) ([]api.Zone, api.Errno)) func(api.Geom, []api.Zone, int, int) ([]api.Zone, api.Errno) {
	return func(g api.Geom, l []api.Zone, zone, _ int) ([]api.Zone, api.Errno) { return f(g, l, zone) }
}

func commands() []command {
	return []command{
		{"Write", func(g api.Geom, l []api.Zone, zone, off int) ([]api.Zone, api.Errno) {
			return Write(g, l, api.At{Zone: zone, Off: off})
		}},
		{"Reset", ofZone(Reset)},
		{"Finish", ofZone(Finish)},
		{"Open", ofZone(Open)},
		{"Close", ofZone(Close)},
	}
}

// expect fails, unless a command of the first sequential zone answers want in
// its place and all other zones as they were.
func expect(t *testing.T, g api.Geom, name string, l, m []api.Zone, e api.Errno, want api.Zone, wantE api.Errno) {
	t.Helper()
	wanted := slices.Clone(l)
	wanted[g.Conv] = want
	if e != wantE || !slices.Equal(m, wanted) {
		t.Errorf("%s of %v: %v %d, want %v %d", name, l, m, e, wanted, wantE)
	}
}

// P4.1: all sequential zones are Empty, all others Soft.
func TestNew(t *testing.T) {
	for _, g := range measures() {
		l := New(g)
		if len(l) != g.Conv+g.Seq || !Right(g, l) {
			t.Errorf("%+v: %v", g, l)
			continue
		}
		for i, z := range l {
			want := api.Zone{State: 4}
			if i >= g.Conv {
				want = api.Zone{}
			}
			if z != want {
				t.Errorf("%+v: zone %d: %v, want %v", g, i, z, want)
			}
		}
	}
}

// P4.1: which pointers a sequential zone may have in which state.
func TestRightPointers(t *testing.T) {
	const none = -1
	for _, g := range measures() {
		bounds := map[int][2]int{
			api.Empty:   {0, 0},
			api.Open:    {0, g.Size - 1},
			api.Closed:  {1, g.Size - 1},
			api.Full:    {0, g.Size},
			api.Soft:    {0, none},
			5:           {0, none},
			-1:          {0, none},
			math.MaxInt: {0, none},
			math.MinInt: {0, none},
		}
		points := far()
		for point := -2; point <= g.Size+2; point++ {
			points = append(points, point)
		}
		for _, zone := range []int{g.Conv, g.Conv + 1, g.Conv + g.Seq - 1} {
			for state, b := range bounds {
				for _, point := range points {
					l := New(g)
					l[zone] = api.Zone{State: state, Point: point}
					if want := point >= b[0] && point <= b[1]; Right(g, l) != want {
						t.Fatalf("%+v: zone %d: %v: right %v", g, zone, l[zone], !want)
					}
				}
			}
		}
	}
}

// P4.1: a conventional zone is Soft, its pointer 0, and nothing else.
func TestRightOfConventionalZones(t *testing.T) {
	for _, g := range measures() {
		for zone := range g.Conv {
			for state := -1; state <= 6; state++ {
				for _, point := range append(far(), 0, 1, g.Soft-1, g.Soft, g.Size) {
					l := New(g)
					l[zone] = api.Zone{State: state, Point: point}
					if want := state == 4 && point == 0; Right(g, l) != want {
						t.Fatalf("%+v: zone %d: %v: right %v", g, zone, l[zone], !want)
					}
				}
			}
		}
	}
}

// P4.1: there are as many as the measure's.
func TestRightLengths(t *testing.T) {
	for _, g := range measures() {
		l := New(g)
		for n := range l {
			if Right(g, l[:n]) || Right(g, l[len(l)-n:]) {
				t.Errorf("%+v: %d zones: right", g, n)
			}
		}
		if Right(g, append(l, api.Zone{})) || Right(g, append([]api.Zone{{State: api.Soft}}, l...)) || Right(g, nil) {
			t.Errorf("%+v: too many zones, or nil: right", g)
		}
	}
}

// P4.1: at most Open are Open, wherever they stand.
func TestRightOpen(t *testing.T) {
	g := api.Geom{Conv: 2, Soft: 6, Seq: 8, Size: 8, Open: 3}
	for mask := range 1 << 8 {
		l, n := New(g), 0
		for i := range 8 {
			l[2+i] = api.Zone{State: api.Closed, Point: 1}
			if mask>>i&1 == 1 {
				l[2+i] = api.Zone{State: api.Open, Point: i}
				n++
			}
		}
		if want := n <= 3; Right(g, l) != want {
			t.Errorf("%d open: right %v", n, !want)
		}
	}
	g.Open = 8
	if l := zonesWith(g, api.Zone{State: api.Open}, 7); !Right(g, l) {
		t.Error("as many open as there are: wrong")
	}
}

// P4.1: ErrNone, ahead of all other errors, if there is no such zone; the
// zones are answered as they were.
func TestNoSuchZone(t *testing.T) {
	for _, g := range measures() {
		for _, z := range rightOnes(g.Size) {
			l := zonesWith(g, z, 2)
			for _, zone := range append(far(), g.Conv+g.Seq, g.Conv+g.Seq+1) {
				for _, c := range commands() {
					if m, e := c.do(g, l, zone, 0); e != 6 || !slices.Equal(m, l) {
						t.Fatalf("%+v: %s of zone %d: %v %d", g, c.name, zone, m, e)
					}
				}
				if e := Read(g, l, api.At{Zone: zone}); e != 6 {
					t.Fatalf("%+v: Read of zone %d: %d", g, zone, e)
				}
			}
		}
	}
}

// P4.1: ErrNone, ahead of all other errors, if the sector isn't the zone's: a
// conventional one has others than a sequential one.
func TestNoSuchSector(t *testing.T) {
	for _, g := range measures() {
		for _, z := range rightOnes(g.Size) {
			l := zonesWith(g, z, 2)
			for _, off := range append(far(), g.Size, g.Size+1) {
				for zone := g.Conv; zone < g.Conv+g.Seq; zone++ {
					noSector(t, g, l, api.At{Zone: zone, Off: off})
				}
			}
			for _, off := range append([]int{-1, g.Soft, g.Soft + 1}, far()[:5]...) {
				for zone := range g.Conv {
					noSector(t, g, l, api.At{Zone: zone, Off: off})
				}
			}
		}
	}
}

func noSector(t *testing.T, g api.Geom, l []api.Zone, a api.At) {
	t.Helper()
	if m, e := Write(g, l, a); e != 6 || !slices.Equal(m, l) {
		t.Fatalf("%+v: Write of %v: %v %d", g, a, m, e)
	}
	if e := Read(g, l, a); e != 6 {
		t.Fatalf("%+v: Read of %v: %d", g, a, e)
	}
}

// P4.2: the example: a zone is written from its beginning on.
func TestWriteGoesOn(t *testing.T) {
	g := least()
	l := New(g)
	for off := range 2 {
		m, e := Write(g, l, api.At{Zone: 2, Off: off})
		if e != 0 {
			t.Fatal(e)
		}
		l = m
	}
	if l[2] != (api.Zone{State: 1, Point: 2}) {
		t.Error(l[2])
	}
	if m, e := Write(g, l, api.At{Zone: 2, Off: 3}); e != 4 || !slices.Equal(m, l) {
		t.Error(m, e)
	}
	for off := 2; off < 8; off++ {
		m, e := Write(g, l, api.At{Zone: 2, Off: off})
		if e != 0 {
			t.Fatal(e)
		}
		l = m
	}
	if l[2] != (api.Zone{State: 3, Point: 8}) {
		t.Error(l[2])
	}
	if m, e := Write(g, l, api.At{Zone: 2, Off: 7}); e != 3 || !slices.Equal(m, l) {
		t.Error(m, e)
	}
}

// P4.2: a conventional zone is written anywhere, and stays what it is, however
// many zones are open.
func TestWriteSoft(t *testing.T) {
	for _, g := range measures() {
		l := zonesWith(g, api.Zone{State: api.Open, Point: 3}, 2)
		for zone := range g.Conv {
			for off := range g.Soft {
				a := api.At{Zone: zone, Off: off}
				if m, e := Write(g, l, a); e != 0 || !slices.Equal(m, l) {
					t.Fatalf("%+v: Write of %v: %v %d", g, a, m, e)
				}
				if e := Read(g, l, a); e != 0 {
					t.Fatalf("%+v: Read of %v: %d", g, a, e)
				}
			}
		}
	}
}

// P4.2: every sector of a zone in every state, with and without room for one
// more open zone: which error comes first, and what a write makes of it.
func TestWriteSequential(t *testing.T) {
	g := least()
	for _, z := range rightOnes(g.Size) {
		for others := range 4 {
			l := zonesWith(g, z, others)
			if !Right(g, l) {
				continue
			}
			for off := range g.Size {
				want, wantE := z, api.Errno(0)
				if z.State == api.Full {
					wantE = api.ErrState
				} else if off != z.Point {
					wantE = api.ErrPlace
				} else if z.State != api.Open && others == 3 {
					wantE = api.ErrOpen
				} else if off == 7 {
					want = api.Zone{State: api.Full, Point: 8}
				} else {
					want = api.Zone{State: api.Open, Point: off + 1}
				}
				m, e := Write(g, l, api.At{Zone: 2, Off: off})
				expect(t, g, "Write", l, m, e, want, wantE)
			}
		}
	}
}

// P4.2: what lies below the pointer is read, in each state.
func TestReadSequential(t *testing.T) {
	for _, g := range measures() {
		for _, z := range rightOnes(g.Size) {
			l := zonesWith(g, z, 2)
			for off := range g.Size {
				want := api.Errno(0)
				if off >= z.Point {
					want = api.ErrPlace
				}
				if e := Read(g, l, api.At{Zone: g.Conv, Off: off}); e != want {
					t.Fatalf("Read of %d in %v: %d, want %d", off, z, e, want)
				}
			}
		}
	}
}

// P4.3: what conventional zones refuse.
func TestSoftZonesAreRefused(t *testing.T) {
	for _, g := range measures() {
		l := zonesWith(g, api.Zone{State: api.Open, Point: 3}, 2)
		for zone := range g.Conv {
			for _, c := range commands()[1:] {
				if m, e := c.do(g, l, zone, 0); e != 3 || !slices.Equal(m, l) {
					t.Errorf("%+v: %s of zone %d: %v %d", g, c.name, zone, m, e)
				}
			}
		}
	}
}

// P4.3: what becomes of a zone in each state, by hand; three may be open.
func TestCommandsByHand(t *testing.T) {
	empty, full := api.Zone{}, api.Zone{State: api.Full, Point: 8}
	open := func(point int) api.Zone { return api.Zone{State: api.Open, Point: point} }
	closed := func(point int) api.Zone { return api.Zone{State: api.Closed, Point: point} }
	finished := func(point int) api.Zone { return api.Zone{State: api.Full, Point: point} }
	do := commands()
	reset, finish, opens, closes := do[1], do[2], do[3], do[4]
	for _, c := range []struct {
		do     command
		was    api.Zone
		others int
		want   api.Zone
		e      api.Errno
	}{
		{reset, empty, 3, empty, 0},
		{reset, open(0), 2, empty, 0},
		{reset, open(7), 0, empty, 0},
		{reset, closed(1), 3, empty, 0},
		{reset, full, 3, empty, 0},
		{reset, finished(0), 0, empty, 0},
		{reset, finished(5), 1, empty, 0},
		{finish, empty, 0, finished(0), 0},
		{finish, empty, 3, finished(0), 0},
		{finish, open(0), 2, finished(0), 0},
		{finish, open(7), 2, finished(7), 0},
		{finish, closed(1), 3, finished(1), 0},
		{finish, closed(7), 0, finished(7), 0},
		{finish, full, 0, full, api.ErrState},
		{finish, finished(0), 0, finished(0), api.ErrState},
		{finish, finished(5), 3, finished(5), api.ErrState},
		{opens, empty, 0, open(0), 0},
		{opens, empty, 2, open(0), 0},
		{opens, empty, 3, empty, api.ErrOpen},
		{opens, closed(4), 0, open(4), 0},
		{opens, closed(4), 2, open(4), 0},
		{opens, closed(4), 3, closed(4), api.ErrOpen},
		{opens, open(0), 0, open(0), 0},
		{opens, open(6), 2, open(6), 0},
		{opens, full, 0, full, api.ErrState},
		{opens, full, 3, full, api.ErrState},
		{opens, finished(0), 3, finished(0), api.ErrState},
		{closes, open(0), 0, empty, 0},
		{closes, open(0), 2, empty, 0},
		{closes, open(1), 2, closed(1), 0},
		{closes, open(7), 0, closed(7), 0},
		{closes, empty, 0, empty, api.ErrState},
		{closes, closed(3), 3, closed(3), api.ErrState},
		{closes, full, 0, full, api.ErrState},
		{closes, finished(2), 0, finished(2), api.ErrState},
	} {
		g := least()
		l := zonesWith(g, c.was, c.others)
		if !Right(g, l) {
			t.Fatalf("%v isn't right", l)
		}
		m, e := c.do.do(g, l, 2, 0)
		expect(t, g, c.do.name, l, m, e, c.want, c.e)
	}
}

// P4.3: the same zone, wherever it stands in the list.
func TestCommandsOfEachZone(t *testing.T) {
	for _, g := range measures() {
		for zone := g.Conv; zone < g.Conv+g.Seq; zone++ {
			for _, c := range []struct {
				do   int
				want api.Zone
			}{
				{0, api.Zone{State: api.Open, Point: 5}},
				{1, api.Zone{}},
				{2, api.Zone{State: api.Full, Point: 4}},
				{3, api.Zone{State: api.Open, Point: 4}},
				{4, api.Zone{State: api.Closed, Point: 4}},
			} {
				l := New(g)
				for i := g.Conv; i < len(l); i++ {
					l[i] = api.Zone{State: api.Closed, Point: 4}
				}
				if c.do == 4 {
					l[zone].State = api.Open
				}
				want := slices.Clone(l)
				want[zone] = c.want
				do := commands()[c.do]
				if m, e := do.do(g, l, zone, 4); e != 0 || !slices.Equal(m, want) {
					t.Errorf("%+v: %s of zone %d: %v %d", g, do.name, zone, m, e)
				}
			}
		}
	}
}

// P4.2, P4.3: where more may be open than there are zones, none lacks room.
func TestAllZonesOpen(t *testing.T) {
	g := measures()[3]
	l := New(g)
	for zone := g.Conv; zone < g.Conv+g.Seq; zone++ {
		m, e := Write(g, l, api.At{Zone: zone})
		if zone%2 == 0 {
			m, e = Open(g, l, zone)
		}
		if e != 0 || m[zone].State != api.Open || !Right(g, m) {
			t.Errorf("zone %d: %v %d", zone, m, e)
		}
		l = m
	}
}

// P4.3: what is open is closed when the power goes, or Empty; all others stay.
func TestPower(t *testing.T) {
	g := measures()[4]
	for _, z := range rightOnes(g.Size) {
		want := z
		if z.State == api.Open && z.Point == 0 {
			want = api.Zone{}
		} else if z.State == api.Open {
			want.State = api.Closed
		}
		l := zonesWith(g, z, 0)
		expect(t, g, "Power", l, Power(l), 0, want, 0)
	}
	l := zonesWith(least(), api.Zone{State: api.Open, Point: 7}, 2)
	if m := Power(l); !slices.Equal(m, []api.Zone{{State: 4}, {State: 4}, {State: 2, Point: 7}, {}, {State: 2, Point: 1}, {}, {}, {}}) {
		t.Error(m)
	}
	if m := Power(nil); len(m) != 0 {
		t.Error(m)
	}
	if m := Power(New(g)); !slices.Equal(m, New(g)) {
		t.Error(m)
	}
}

// moved tells how the pointers of two lists differ: how many do, and by what
// the last one of these.
func moved(l, m []api.Zone) (n, by int) {
	for i := range l {
		if m[i].Point != l[i].Point {
			n, by = n+1, m[i].Point-l[i].Point
		}
	}
	return n, by
}

// P4.4: on a long walk of commands right zones stay right, and a pointer moves
// only by a write that was done, by one, and by a reset, to 0.
func TestWalk(t *testing.T) {
	for _, g := range measures() {
		l, x := New(g), uint32(len(commands()))
		next := func(n int) int {
			x = x*1664525 + 1013904223
			return int(x>>8) % n
		}
		done := map[string]int{}
		for range 40000 {
			zone := next(g.Conv + g.Seq)
			if zone >= g.Conv && next(4) > 0 {
				zone = g.Conv + next(4)
			}
			c := commands()[[]int{0, 0, 0, 0, 0, 0, 0, 0, 0, 0, 1, 2, 3, 3, 4, 4}[next(16)]]
			off := l[zone].Point
			if next(8) == 0 {
				off = next(g.Size)
			}
			m, e := c.do(g, l, zone, off)
			name := c.name
			if next(500) == 0 {
				m, e, name = Power(l), 0, "Power"
			}
			n, by := moved(l, m)
			point := 0
			if e == 0 && name == "Write" && zone >= g.Conv {
				point = 1
			}
			legal := n == 0 && point == 0 || n == 1 && by == 1 && point == 1 || n == 1 && name == "Reset" && m[zone].Point == 0
			if !legal || !Right(g, m) || e != 0 && !slices.Equal(l, m) {
				t.Fatalf("%+v: %s of %d %d: %d: %v, was %v", g, name, zone, off, e, m, l)
			}
			if e == 0 {
				done[name]++
			}
			l = m
		}
		if len(done) != 6 || done["Write"] < 1000 {
			t.Errorf("%+v: the walk did too little: %v", g, done)
		}
	}
}

// P4.5: no call changes what it was handed, nor what lies behind it, and what
// it answers shares nothing with that, done or refused.
func TestAnswersAreNew(t *testing.T) {
	g := least()
	for _, z := range rightOnes(g.Size) {
		for _, zone := range []int{0, 2, 3, 7, 8, -1} {
			for off := range g.Size {
				all := append(zonesWith(g, z, 2), api.Zone{State: 77}, api.Zone{State: 78})
				l, was := all[:8], slices.Clone(all)
				answers := [][]api.Zone{Power(l)}
				for _, c := range commands() {
					m, _ := c.do(g, l, zone, off)
					answers = append(answers, m)
				}
				Right(g, l)
				Read(g, l, api.At{Zone: zone, Off: off})
				if !slices.Equal(all, was) {
					t.Fatalf("changed: %v, was %v", all, was)
				}
				for _, m := range answers {
					for i := range m {
						m[i] = api.Zone{State: 99, Point: 99}
					}
					_ = append(m, api.Zone{State: 99})
					if !slices.Equal(all, was) {
						t.Fatalf("an answer's change is seen: %v, was %v", all, was)
					}
				}
			}
		}
	}
}

// P4.5: no two answers share memory.
func TestNewIsNew(t *testing.T) {
	first, second := New(least()), New(least())
	clear(first)
	if !Right(least(), second) {
		t.Error("a change of an answer is seen in another")
	}
	l := New(least())
	m, _ := Open(least(), l, 2)
	n, _ := Open(least(), l, 2)
	clear(m)
	if !Right(least(), n) || !Right(least(), l) {
		t.Error("a change of an answer is seen elsewhere")
	}
}

// The language's rule 4: no call panics, also of lists and measures that aren't
// right.
func TestWrongOnesEndWithoutPanic(t *testing.T) {
	l := append(far(), 0, 1, 2, 3, 6, 8)
	lists := [][]api.Zone{nil, {}, {{State: 77, Point: -1}}, New(least())[:3], append(New(least()), api.Zone{})}
	for _, n := range l {
		lists = append(lists, []api.Zone{{State: n, Point: n}, {State: api.Open, Point: n}, {State: api.Closed, Point: n}})
	}
	measures := []api.Geom{least()}
	for _, a := range l {
		for _, b := range l {
			measures = append(measures, api.Geom{Conv: a, Soft: b, Seq: b, Size: a, Open: b}, api.Geom{Conv: 2, Soft: a, Seq: a, Size: b, Open: b})
		}
	}
	for _, g := range measures {
		New(g)
		for _, zones := range lists {
			Right(g, zones)
			Power(zones)
			for _, n := range l {
				for _, c := range commands() {
					c.do(g, zones, n, 0)
					c.do(g, zones, 2, n)
				}
				Read(g, zones, api.At{Zone: n, Off: 1})
				Read(g, zones, api.At{Zone: 2, Off: n})
			}
		}
	}
}

// A list that is too short lacks zones that the measure has.
func TestShortLists(t *testing.T) {
	g := least()
	for n := range geom.Zones(g) {
		l := New(g)[:n]
		for _, c := range commands() {
			if m, e := c.do(g, l, n, 0); e != api.ErrNone || !slices.Equal(m, l) {
				t.Errorf("%s of zone %d in %d zones: %v %d", c.name, n, n, m, e)
			}
		}
		if e := Read(g, l, api.At{Zone: n}); e != api.ErrNone {
			t.Errorf("Read of zone %d in %d zones: %d", n, n, e)
		}
	}
}
