package pick

import (
	"math"
	"math/big"
	"slices"
	"testing"

	"windrow/api"
)

// chance answers numbers that follow no simple pattern, the same in each run.
type chance uint64

func (c *chance) below(n int) int {
	*c = *c*6364136223846793005 + 1442695040888963407
	return int(uint64(*c) >> 32 % uint64(n))
}

// policies are both that there are, and some that are Greedy too.
var policies = []int{api.Greedy, api.Benefit, -1, 2, 7, math.MinInt, math.MaxInt}

// cand writes a candidate short.
func cand(zone, live, age int) api.Cand {
	return api.Cand{Zone: zone, Live: live, Age: age}
}

// worth tells a candidate's worth by Benefit, by numbers of any length.
func worth(c api.Cand, size int) *big.Rat {
	age := new(big.Int).Add(big.NewInt(int64(c.Age)), big.NewInt(1))
	top := new(big.Int).Mul(big.NewInt(int64(size-c.Live)), age)
	return new(big.Rat).SetFrac(top, big.NewInt(int64(size+c.Live)))
}

// byWords tells whether a is better than b, word by word.
func byWords(a, b api.Cand, size, policy int) bool {
	if policy == api.Benefit {
		if sign := worth(a, size).Cmp(worth(b, size)); sign != 0 {
			return sign > 0
		}
		return a.Zone < b.Zone
	}
	if a.Live != b.Live {
		return a.Live < b.Live
	}
	return a.Zone < b.Zone
}

// chosen answers the zones of all that may be chosen and that none is better
// than, word by word.
func chosen(l []api.Cand, size, policy int) []int {
	var may []api.Cand
	for _, c := range l {
		if c.Live >= 0 && c.Live <= size-1 {
			may = append(may, c)
		}
	}
	var zones []int
	for _, c := range may {
		if !slices.ContainsFunc(may, func(x api.Cand) bool { return byWords(x, c, size, policy) }) {
			zones = append(zones, c.Zone)
		}
	}
	return zones
}

// picked holds what Best tells of a list, and that the list stays.
func picked(t *testing.T, l []api.Cand, size, policy int) {
	t.Helper()
	was := slices.Clone(l)
	zones := chosen(l, size, policy)
	zone, ok := Best(l, size, policy)
	if len(zones) == 0 && (ok || zone != 0) {
		t.Fatalf("Best of %v, size %d, policy %d: %d %v, want none", l, size, policy, zone, ok)
	}
	if len(zones) > 0 && (!ok || !slices.Contains(zones, zone)) {
		t.Fatalf("Best of %v, size %d, policy %d: %d %v, want one of %v", l, size, policy, zone, ok, zones)
	}
	if !slices.Equal(l, was) {
		t.Fatalf("the list is another one: %v, want %v", l, was)
	}
}

// best holds that Best tells a certain zone, in whichever order they stand.
func best(t *testing.T, want, size, policy int, l ...api.Cand) {
	t.Helper()
	for range l {
		if zone, ok := Best(l, size, policy); zone != want || !ok {
			t.Errorf("Best of %v, size %d, policy %d: %d %v, want %d", l, size, policy, zone, ok, want)
		}
		l = append(slices.Clone(l[1:]), l[0])
	}
	slices.Reverse(l)
	if zone, ok := Best(l, size, policy); zone != want || !ok {
		t.Errorf("Best of %v, size %d, policy %d: %d %v, want %d", l, size, policy, zone, ok, want)
	}
}

// none holds that nothing of the list may be chosen.
func none(t *testing.T, size int, l ...api.Cand) {
	t.Helper()
	for _, policy := range policies {
		if zone, ok := Best(l, size, policy); zone != 0 || ok {
			t.Errorf("Best of %v, size %d, policy %d: %d %v, want none", l, size, policy, zone, ok)
		}
	}
}

// P16.1: the chapter's example.
func TestExample(t *testing.T) {
	best(t, 3, 8, api.Greedy, cand(2, 5, 0), cand(3, 4, 0))
	best(t, 3, 8, api.Benefit, cand(2, 5, 0), cand(3, 4, 0))
	best(t, 2, 8, api.Benefit, cand(2, 5, 99), cand(3, 4, 0))
	best(t, 3, 8, api.Greedy, cand(2, 5, 99), cand(3, 4, 0))
}

// P16.1: by Greedy the fewer live sectors, whatever the ages; then the lesser
// zone. Any policy but Benefit is Greedy.
func TestGreedy(t *testing.T) {
	for _, policy := range policies {
		if policy == api.Benefit {
			continue
		}
		best(t, 9, 16, policy, cand(2, 4, api.MaxNum), cand(9, 3, 0), cand(5, 15, 7))
		best(t, 4, 16, policy, cand(9, 3, 80), cand(4, 3, 2), cand(6, 3, 0))
		best(t, 8, 16, policy, cand(8, 0, 0), cand(2, 1, api.MaxNum))
	}
}

// P16.1: by Benefit the greater fraction, by hand: of size 8, 4 live at age 0 are
// worth 4/12; 6 live at age 1 are worth 4/14, at age 2 they are worth 6/14.
func TestBenefit(t *testing.T) {
	best(t, 9, 8, api.Benefit, cand(9, 4, 0), cand(2, 6, 1))
	best(t, 9, 8, api.Benefit, cand(3, 4, 0), cand(9, 6, 2))
	// 7/9 against 4/12 and 6/14; the age adds one at first: 8/8 ahead of all.
	best(t, 5, 8, api.Benefit, cand(3, 4, 0), cand(9, 6, 2), cand(5, 1, 0))
	best(t, 6, 8, api.Benefit, cand(3, 4, 0), cand(9, 6, 2), cand(5, 1, 0), cand(6, 0, 0))
}

// P16.1: fractions are equal that are written in different ways: then the lesser
// zone is better. Of size 6, 3 live are worth 3(a+1)/9, none live (a+1).
func TestEqualFractions(t *testing.T) {
	for _, zones := range [][2]int{{2, 3}, {3, 2}, {0, 63}} {
		a, b := cand(zones[0], 3, 2), cand(zones[1], 0, 0)
		best(t, min(zones[0], zones[1]), 6, api.Benefit, a, b)
		if Better(a, b, 6, api.Benefit) != (a.Zone < b.Zone) || Better(b, a, 6, api.Benefit) != (b.Zone < a.Zone) {
			t.Errorf("%v and %v aren't told by their zones", a, b)
		}
	}
	// Rounded down both are 0, and to a float's 53 bits both are one number.
	best(t, 3, 256, api.Benefit, cand(2, 255, 0), cand(3, 254, 0))
	best(t, 3, 256, api.Benefit, cand(2, 0, api.MaxNum-1), cand(3, 0, api.MaxNum))
}

// P16.1: from 0 to size - 1 sectors may be live; of others none is chosen,
// however good it looks.
func TestMayBeChosen(t *testing.T) {
	none(t, 8)
	none(t, 8, cand(2, 8, api.MaxNum))
	none(t, 8, cand(2, -1, api.MaxNum), cand(3, 9, 0), cand(4, math.MinInt, 5), cand(5, math.MaxInt, 5))
	none(t, 1, cand(2, 1, 3), cand(3, -1, 3))
	for _, policy := range policies {
		best(t, 7, 8, policy, cand(7, 7, 0), cand(2, 8, api.MaxNum), cand(3, -1, api.MaxNum), cand(4, 256, 0))
		best(t, 7, 8, policy, cand(7, 0, 0), cand(2, -1, api.MaxNum), cand(3, -8, api.MaxNum))
		best(t, 7, 1, policy, cand(7, 0, 0), cand(2, 1, api.MaxNum))
		best(t, 7, api.MaxSize, policy, cand(7, api.MaxSize-1, 0), cand(2, api.MaxSize, api.MaxNum))
		best(t, 0, 8, policy, cand(0, 7, 0), cand(2, 8, 0))
	}
}

// P16.1: nil and empty lists are one: there is none.
func TestEmpty(t *testing.T) {
	for _, policy := range policies {
		for _, l := range [][]api.Cand{nil, {}} {
			if zone, ok := Best(l, 8, policy); zone != 0 || ok {
				t.Errorf("Best of nothing, policy %d: %d %v", policy, zone, ok)
			}
		}
	}
}

// P16.1: nothing is better than itself, nor than one that stands twice.
func TestItself(t *testing.T) {
	for _, policy := range policies {
		for _, c := range []api.Cand{cand(2, 0, 0), cand(3, 7, api.MaxNum), cand(4, 3, 9)} {
			if Better(c, c, 8, policy) {
				t.Errorf("%v is better than itself, policy %d", c, policy)
			}
			best(t, c.Zone, 8, policy, c, c)
		}
	}
}

// P16.1: at the greatest sizes and ages nothing overflows.
func TestGreatest(t *testing.T) {
	lives := []int{0, 1, 2, 127, 128, 254, 255}
	ages := []int{0, 1, 2, 1<<31 - 1, 1 << 32, api.MaxNum - 1, api.MaxNum}
	var l []api.Cand
	for _, live := range lives {
		for _, age := range ages {
			l = append(l, cand(len(l)*7%64, live, age))
		}
	}
	for _, a := range l {
		for _, b := range l {
			for _, policy := range policies {
				if got, want := Better(a, b, api.MaxSize, policy), byWords(a, b, api.MaxSize, policy); got != want {
					t.Fatalf("Better of %v and %v, policy %d: %v, want %v", a, b, policy, got, want)
				}
			}
		}
	}
}

// P16.1: over all candidates of small sizes, two by two.
func TestAllPairs(t *testing.T) {
	for size := 1; size <= 6; size++ {
		var l []api.Cand
		for zone := range 2 {
			for live := range size {
				for age := range 7 {
					l = append(l, cand(zone, live, age))
				}
			}
		}
		for _, a := range l {
			for _, b := range l {
				for _, policy := range []int{api.Greedy, api.Benefit, 2} {
					if got, want := Better(a, b, size, policy), byWords(a, b, size, policy); got != want {
						t.Fatalf("Better of %v and %v, size %d, policy %d: %v, want %v", a, b, size, policy, got, want)
					}
				}
			}
		}
	}
}

// P16.1, P16.2: over all lists of three of a small size, some of which can't be
// chosen: no candidate is better than the one that is.
func TestAllLists(t *testing.T) {
	var all []api.Cand
	for live := -1; live <= 3; live++ {
		for _, age := range []int{0, 1, 4} {
			all = append(all, cand(0, live, age))
		}
	}
	for _, a := range all {
		for _, b := range all {
			for _, c := range all {
				for _, zones := range [][3]int{{2, 3, 4}, {4, 3, 2}, {3, 4, 2}} {
					a.Zone, b.Zone, c.Zone = zones[0], zones[1], zones[2]
					picked(t, []api.Cand{a, b, c}, 3, api.Greedy)
					picked(t, []api.Cand{a, b, c}, 3, api.Benefit)
				}
			}
		}
	}
}

// P16.1, P16.2: over lists by chance, of sizes and ages from the least to the
// greatest.
func TestChance(t *testing.T) {
	c := chance(16)
	ages := []int{1, 3, 40, 1 << 16, api.MaxNum}
	for range 20000 {
		size := 1 + c.below([]int{3, 16, api.MaxSize}[c.below(3)])
		most := ages[c.below(len(ages))]
		var l []api.Cand
		for range c.below(9) {
			age := c.below(most + 1)
			if c.below(2) == 0 {
				age = most - age
			}
			l = append(l, cand(c.below(64), c.below(size+2)-1+c.below(2), age))
		}
		picked(t, l, size, policies[c.below(len(policies))])
	}
}

// P16.2: of two with the same live sectors the elder one is chosen by Benefit,
// whichever has the lesser zone; by Greedy the ages count for nothing.
func TestElder(t *testing.T) {
	for _, size := range []int{1, 2, 9, api.MaxSize} {
		for live := range size {
			for _, age := range []int{0, 1, 1000, api.MaxNum - 1} {
				elder, younger := cand(5, live, age+1), cand(4, live, age)
				best(t, 5, size, api.Benefit, elder, younger)
				best(t, 4, size, api.Greedy, elder, younger)
				elder.Zone = 3
				best(t, 3, size, api.Benefit, elder, younger)
			}
		}
	}
}

// P1: the calls end, whatever they are given.
func TestAnything(t *testing.T) {
	numbers := []int{math.MinInt, -1, 0, 1, api.MaxSize, api.MaxNum + 1, math.MaxInt}
	for _, size := range numbers {
		for _, live := range numbers {
			for _, age := range numbers {
				for _, policy := range policies {
					l := []api.Cand{cand(2, live, age), cand(3, age, live)}
					Better(l[0], l[1], size, policy)
					Best(l, size, policy)
				}
			}
		}
	}
}
