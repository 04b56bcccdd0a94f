package ckpt

import (
	"encoding/binary"
	"hash/crc32"
	"math"
	"slices"
	"testing"

	"windrow/api"
	"windrow/dev"
)

// P13.2: the regions that the words call whole are told, laid past Write.
func TestWholeRegions(t *testing.T) {
	for _, g := range measures() {
		for _, gen := range []int{1, 2, 3, 4, api.MaxNum - 1, api.MaxNum} {
			d := dev.New(g)
			lay(t, d, startOf(gen), regionOf(head(g, gen), some(g, gen)))
			picked(t, "laid", d, g, head(g, gen), some(g, gen))
			unharmed(t, d)
		}
	}
}

// notWhole holds that these sectors in the region of a Gen are no whole one's:
// Pick tells none, or the one in the other region, be it older.
func notWhole(t *testing.T, what string, g api.Geom, gen int, l []api.Page) {
	t.Helper()
	d := dev.New(g)
	lay(t, d, startOf(gen), l)
	refused(t, what, d, g, api.ErrFormat)
	lay(t, d, startOf(gen-1), regionOf(head(g, gen-1), some(g, 4)))
	picked(t, what, d, g, head(g, gen-1), some(g, 4))
	unharmed(t, d)
}

// with answers the sectors l with another one at i.
func with(l []api.Page, i int, p api.Page) []api.Page {
	l = slices.Clone(l)
	l[i] = p
	return l
}

// P13.2: with any bit turned no region is whole.
func TestEachBitTurned(t *testing.T) {
	for _, g := range []api.Geom{least, two} {
		for gen := 6; gen <= 7; gen++ {
			l := regionOf(head(g, gen), some(g, gen))
			for i := range l {
				for bit := range 8 * api.Sector {
					p := l[i]
					p[bit/8] ^= 1 << (bit % 8)
					notWhole(t, "turned", g, gen, with(l, i, p))
				}
			}
		}
	}
}

// P13.2: with any byte another one, but the right sum, no region is whole: but
// for one of a leaf's places, which are another table's.
func TestEachByteAnotherOne(t *testing.T) {
	for _, g := range []api.Geom{least, two, three} {
		l := regionOf(head(g, 6), some(g, 6))
		for i := range l {
			for at := range 60 {
				p := l[i]
				p[at] += 3
				if leaf := i > 0 && i < len(l)-1; leaf && at >= 13 && at < 53 {
					continue
				}
				notWhole(t, "another byte", g, 6, with(l, i, summed(p)))
			}
		}
	}
}

// P13.2: no sector of a region may be missing, or another one's of it.
func TestSectorsAtWrongPlaces(t *testing.T) {
	for _, g := range []api.Geom{least, two, three, greatMeasure} {
		for gen := 6; gen <= 7; gen++ {
			l := regionOf(head(g, gen), some(g, gen))
			few := []int{0, 1, len(l) / 2, len(l) - 2, len(l) - 1}
			for _, i := range few {
				notWhole(t, "missing", g, gen, with(l, i, api.Page{}))
				for _, j := range few {
					if i != j {
						notWhole(t, "twice", g, gen, with(l, i, l[j]))
						notWhole(t, "swapped", g, gen, with(with(l, i, l[j]), j, l[i]))
					}
				}
			}
			notWhole(t, "nothing", g, gen, nil)
			notWhole(t, "one too early", g, gen, l[1:])
			notWhole(t, "turned about", g, gen, reversed(l))
		}
	}
}

// reversed answers the sectors, the last one first.
func reversed(l []api.Page) []api.Page {
	l = slices.Clone(l)
	slices.Reverse(l)
	return l
}

// P13.2: a region begins where its Gen says: not a sector earlier or later, and
// not in the other zone.
func TestRegionsElsewhere(t *testing.T) {
	for _, g := range measures() {
		for _, gen := range []int{1, 2, 3, 4, api.MaxNum - 1, api.MaxNum} {
			l := regionOf(head(g, gen), some(g, gen))
			for zone := range min(g.Conv, 3) {
				for off := range min(3, g.Soft-len(l)+1) {
					a := api.At{Zone: zone, Off: off}
					d := dev.New(g)
					lay(t, d, a, l)
					if a == startOf(gen) {
						picked(t, "at its place", d, g, head(g, gen), some(g, gen))
					} else {
						refused(t, "elsewhere", d, g, api.ErrFormat)
					}
				}
			}
		}
	}
}

// P13.2: a head, and the foot of it, of a Gen that belongs elsewhere.
func TestGenThatBelongsElsewhere(t *testing.T) {
	for _, g := range measures() {
		for _, gen := range []int{6, 7} {
			for _, other := range []int{gen - 1, gen + 1, gen + 3, gen + 1<<32 + 1, api.MaxNum - 1 + gen&1} {
				notWhole(t, "other Gen", g, gen, regionOf(head(g, other), some(g, 6)))
			}
		}
	}
}

// P13.2: a head that isn't right isn't a whole region's, be its foot as it is.
func TestHeadsThatAreNotRight(t *testing.T) {
	for _, g := range []api.Geom{least, two, three} {
		leaves := leavesOf(7, some(g, 7))
		for _, m := range noHeads(g) {
			l := framed(m, leaves)
			if l[0] == mastSector(head(g, 7)) {
				continue
			}
			notWhole(t, "no head", g, 7, l)
			notWhole(t, "no head, right foot", g, 7, with(l, len(l)-1, mastSector(footOf(head(g, 7), leaves))))
		}
		right := head(g, 7)
		for _, seq := range []int{api.MaxNum + 1, -1} {
			right.Seq = seq
			notWhole(t, "Seq", g, 7, framed(right, leaves))
		}
	}
}

// P13.2: of a region that is right but has another measure's pages: fewer, or
// more; with just its own it is whole.
func TestOtherMeasuresPages(t *testing.T) {
	wide := api.Geom{Conv: 2, Soft: 500, Seq: 9, Size: 10, Open: 3}
	for seq := 6; seq <= 62; seq++ {
		g := wide
		g.Seq = seq
		d := dev.New(g)
		lay(t, d, startOf(6), regionOf(head(g, 6), some(g, 6)))
		picked(t, "own", d, g, head(g, 6), some(g, 6))
		for _, other := range []int{6, seq - 2, seq - 1, seq + 1, seq + 2, 62} {
			h := wide
			h.Seq = min(max(other, 6), 62)
			if pagesOf(h) != pagesOf(g) {
				notWhole(t, "other pages", g, 6, regionOf(head(h, 6), some(h, 6)))
			}
		}
	}
}

// P13.2: a foot says what the head says, and the sum of the leaves' sectors: by
// anything else, even if it is a right foot, the region isn't whole.
func TestFeetOfOthers(t *testing.T) {
	for _, g := range measures() {
		for _, gen := range []int{6, 7} {
			m := head(g, gen)
			l := regionOf(m, some(g, gen))
			right := footOf(m, l[1:len(l)-1])
			for _, f := range otherFeet(right) {
				notWhole(t, "foot", g, gen, with(l, len(l)-1, mastSector(f)))
			}
			for _, h := range otherFeet(m) {
				notWhole(t, "head", g, gen, with(l, 0, mastSector(h)))
			}
			notWhole(t, "head at the end", g, gen, with(l, len(l)-1, l[0]))
			notWhole(t, "foot at the beginning", g, gen, with(l, 0, l[len(l)-1]))
			notWhole(t, "sum of less", g, gen, with(l, len(l)-1, mastSector(footOf(m, l[1:len(l)-2]))))
			notWhole(t, "sum of more", g, gen, with(l, len(l)-1, mastSector(footOf(m, l[:len(l)-1]))))
		}
	}
}

// otherFeet answers masts that are another one than m in one thing each.
func otherFeet(m api.Mast) []api.Mast {
	var l []api.Mast
	for _, by := range []int{-2, -1, 1, 2, 1 << 20} {
		gen, epoch, seq, pages, sum := m, m, m, m, m
		gen.Gen += by
		epoch.Epoch += by
		seq.Seq += by
		pages.Pages += by
		sum.Sum += uint32(by)
		l = append(l, gen, epoch, seq, pages, sum)
	}
	turned, bare, other := m, m, m
	turned.Sum = ^m.Sum
	other.Foot = !m.Foot
	if m.Foot {
		bare.Sum = 0
		l = append(l, bare)
	}
	return append(l, turned, other)
}

// P13.2: the leaves are 0, 1, .., each of the head's Gen: no leaf of another
// number, or of another Gen, even if the foot has their sum.
func TestLeavesOfOthers(t *testing.T) {
	for _, g := range []api.Geom{least, two, three, greatMeasure} {
		for _, gen := range []int{6, 7} {
			m := head(g, gen)
			leaves := leavesOf(gen, some(g, gen))
			last := len(leaves) - 1
			for _, i := range []int{0, last / 2, last} {
				places := some(g, gen)[10*i : min(10*i+10, blocksOf(g))]
				for _, by := range []int{-gen, -2, -1, 1, 2, 1 << 32, api.MaxNum - gen, api.MaxNum} {
					notWhole(t, "Gen", g, gen, framed(m, with(leaves, i, leafSector(gen+by, i, places))))
				}
				for _, index := range []int{-1, i - 1, i + 1, i + 2, last + 1, api.MaxBlock, api.MaxBlock + 1, math.MaxUint32} {
					notWhole(t, "Index", g, gen, framed(m, with(leaves, i, leafSector(gen, index, places))))
				}
			}
			if last > 0 {
				notWhole(t, "swapped", g, gen, framed(m, with(with(leaves, 0, leaves[last]), last, leaves[0])))
				notWhole(t, "twice", g, gen, framed(m, with(leaves, 0, leaves[last])))
				notWhole(t, "turned about", g, gen, framed(m, reversed(leaves)))
			}
		}
	}
}

// P13.2: what stands at a leaf's place is a leaf, not a head, a foot or a
// sector that is spoilt, even if the foot has their sum.
func TestLeavesThatAreNone(t *testing.T) {
	for _, g := range []api.Geom{least, two, three} {
		m := head(g, 6)
		leaves := leavesOf(6, some(g, 6))
		for i, leaf := range leaves {
			spoilt, behind := leaf, leaf
			spoilt[20] ^= 1
			behind[53] = 1
			none := []api.Page{{}, mastSector(m), mastSector(footOf(m, leaves)), spoilt, summed(behind)}
			for _, p := range none {
				notWhole(t, "no leaf", g, 6, framed(m, with(leaves, i, p)))
			}
		}
	}
}

// P13.2: the leaves make a table: no place stands behind the last block.
func TestPlacesBehindTheLastBlock(t *testing.T) {
	for _, g := range measures() {
		m := head(g, 6)
		leaves := leavesOf(6, some(g, 6))
		last := len(leaves) - 1
		for i := range 10 {
			for _, place := range []int{1, 258, greatest} {
				places := make([]int, 10)
				places[i] = place
				l := framed(m, with(leaves, last, leafSector(6, last, places)))
				if 10*last+i >= blocksOf(g) {
					notWhole(t, "behind", g, 6, l)
					continue
				}
				d := dev.New(g)
				lay(t, d, startOf(6), l)
				want := some(g, 6)
				copy(want[10*last:], places)
				picked(t, "the last block", d, g, m, want)
			}
		}
	}
}

// wholeAs tells which head and places stand in the sectors of a Gen's region,
// if it is whole by the chapters' words; they are read by the library's means.
func wholeAs(g api.Geom, low int, l []api.Page) (api.Mast, []int, bool) {
	first := l[0]
	word := func(p api.Page, at int) int { return int(binary.LittleEndian.Uint64(p[at:])) }
	m := api.Mast{Gen: word(first, 1), Epoch: word(first, 9), Seq: word(first, 17), Pages: pagesOf(g)}
	named := m.Gen >= 1 && m.Gen <= 1<<40 && m.Epoch >= 1 && m.Epoch <= 1<<40 && m.Seq >= 0 && m.Seq <= 1<<40
	if first != mastSector(m) || !named || m.Gen&1 != low {
		return api.Mast{}, nil, false
	}
	var places []int
	leaves := l[1 : len(l)-1]
	for i, p := range leaves {
		var its []int
		for at := 13; at < 53; at += 4 {
			its = append(its, int(binary.LittleEndian.Uint32(p[at:])))
		}
		if p != leafSector(m.Gen, i, its) {
			return api.Mast{}, nil, false
		}
		places = append(places, its...)
	}
	behind := places[blocksOf(g):]
	if slices.Max(append(behind, 0)) != 0 || l[len(l)-1] != mastSector(footOf(m, leaves)) {
		return api.Mast{}, nil, false
	}
	return m, places[:blocksOf(g)], true
}

// bits answers sectors of some regions, and such as are none's: a walk lays
// them about.
func bits(g api.Geom) []api.Page {
	var l []api.Page
	for _, gen := range []int{3, 4, 5, 6} {
		for n := range 2 {
			m := head(g, gen)
			m.Seq += n
			l = append(l, regionOf(m, some(g, n))...)
		}
	}
	full := slices.Repeat([]int{7}, 10)
	return append(l, api.Page{}, leafSector(5, pagesOf(g)-1, full), leafSector(6, pagesOf(g)-1, full))
}

// P13.2: on walks over regions that are put together of many ones' sectors Pick
// tells what the words say, sector by sector.
func TestWalkOfMixedRegions(t *testing.T) {
	for seed, g := range []api.Geom{least, two, three} {
		c, l := chance(100+seed), bits(g)
		d := dev.New(g)
		told := map[int]int{}
		for range 60000 {
			gen := 3 + c.below(4)
			i := c.below(pagesOf(g) + 2)
			a := startOf(gen)
			a.Off += i
			// Mostly a sector that may stand there: else hardly any region is
			// ever whole.
			p := l[c.below(len(l))]
			if c.below(8) > 0 {
				p = l[(gen-3)*2*(pagesOf(g)+2)+c.below(2)*(pagesOf(g)+2)+i]
			}
			must(t, d.Write(a, p))
			must(t, d.Flush())
			told[asTheWords(t, d, g)]++
		}
		for gen := range 7 {
			if (gen == 0 || gen >= 3) && told[gen] < 50 {
				t.Errorf("%v: Gen %d is told %d times alone", g, gen, told[gen])
			}
		}
	}
}

// asTheWords holds that Pick tells what the words say, and answers the Gen; 0,
// if none is whole.
func asTheWords(t *testing.T, d *dev.Device, g api.Geom) int {
	t.Helper()
	var newest api.Mast
	var places []int
	for low := range 2 {
		var l []api.Page
		for i := range pagesOf(g) + 2 {
			a := startOf(low)
			p, _ := d.Read(api.At{Zone: a.Zone, Off: a.Off + i})
			l = append(l, p)
		}
		if m, its, ok := wholeAs(g, low, l); ok && m.Gen > newest.Gen {
			newest, places = m, its
		}
	}
	if newest.Gen == 0 {
		refused(t, "mixed", d, g, api.ErrFormat)
	} else {
		picked(t, "mixed", d, g, newest, places)
	}
	return newest.Gen
}

// P13.1: the sum is that of all leaves' sectors in one row, their own sums with
// them: by hand of one, and of two.
func TestSumOfTheLeaves(t *testing.T) {
	for _, g := range []api.Geom{least, two, greatMeasure} {
		d := dev.New(g)
		write(t, d, g, head(g, 2), some(g, 2))
		sum := uint32(0)
		for i := range pagesOf(g) {
			p, _ := d.Read(api.At{Zone: 1, Off: 1 + i})
			sum = crc32.Update(sum, crc32.IEEETable, p[:])
		}
		p, _ := d.Read(api.At{Zone: 1, Off: 1 + pagesOf(g)})
		if got := binary.LittleEndian.Uint32(p[29:]); got != sum {
			t.Errorf("%d pages: %x, want %x", pagesOf(g), got, sum)
		}
	}
}
