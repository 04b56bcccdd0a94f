package word

import (
	"bytes"
	"math"
	"testing"
)

// numbers holds numbers of every width, and those beside a width's edge.
func numbers() []uint64 {
	l := []uint64{0, 1, 2, 127, 128, 258, 0x0123456789abcdef, 0xfedcba9876543210, math.MaxUint64}
	for n := 1; n < 8; n++ {
		edge := uint64(1) << (8 * n)
		l = append(l, edge-1, edge, edge+1)
	}
	return append(l, 1<<63-1, 1<<63, 1<<63+1)
}

// filled answers size bytes, no two neighbours of which are alike.
func filled(size int) []byte {
	b := make([]byte, size)
	for i := range b {
		b[i] = byte(0xa5 + 37*i)
	}
	return b
}

// wrong lists the spans that no list of ten bytes has.
func wrong() [][2]int {
	l := [][2]int{}
	for _, n := range []int{0, -1, -8, 9, 10, 16, math.MaxInt, math.MinInt} {
		for _, at := range []int{-1, 0, 1, 9, 10, math.MaxInt, math.MinInt} {
			l = append(l, [2]int{at, n})
		}
	}
	for n := 1; n <= 8; n++ {
		for _, at := range []int{-1, -n, -8, 11 - n, 10, 11, math.MaxInt, math.MaxInt - n, math.MaxInt - n + 1, math.MinInt, math.MinInt + n} {
			l = append(l, [2]int{at, n})
		}
	}
	return l
}

// P1.1: the lowest byte comes first.
func TestPutLaysLowestByteFirst(t *testing.T) {
	for _, c := range []struct {
		at, n int
		x     uint64
		want  []byte
	}{
		{0, 2, 258, []byte{2, 1}},
		{1, 2, 258, []byte{0, 2, 1, 0}},
		{0, 1, 7, []byte{7}},
		{0, 1, 0x1ff, []byte{0xff}},
		{0, 3, 0x01020304, []byte{4, 3, 2}},
		{0, 7, 0x0102030405060708, []byte{8, 7, 6, 5, 4, 3, 2}},
		{0, 8, 0x0102030405060708, []byte{8, 7, 6, 5, 4, 3, 2, 1}},
		{0, 8, math.MaxUint64, []byte{255, 255, 255, 255, 255, 255, 255, 255}},
		{2, 4, 5, []byte{0, 0, 5, 0, 0, 0}},
	} {
		b := make([]byte, len(c.want))
		if !Put(b, c.at, c.n, c.x) || !bytes.Equal(b, c.want) {
			t.Errorf("Put(%d, %d, %#x): % x, want % x", c.at, c.n, c.x, b, c.want)
		}
	}
}

// P1.1: noughts are laid too, over what stood there.
func TestPutLaysNoughts(t *testing.T) {
	b := []byte{9, 9, 9, 9, 9}
	if !Put(b, 1, 3, 1) || !bytes.Equal(b, []byte{9, 1, 0, 0, 9}) {
		t.Errorf("% x", b)
	}
}

// P1.1: a number is read the lowest byte first, as wide as it was asked for.
func TestGetReadsLowestByteFirst(t *testing.T) {
	b := []byte{0x01, 0x23, 0x45, 0x67, 0x89, 0xab, 0xcd, 0xef, 0xff, 0x80}
	for _, c := range []struct {
		at, n int
		want  uint64
	}{
		{0, 1, 0x01},
		{7, 1, 0xef},
		{9, 1, 0x80},
		{0, 2, 0x2301},
		{1, 3, 0x674523},
		{6, 4, 0x80ffefcd},
		{0, 7, 0xcdab8967452301},
		{0, 8, 0xefcdab8967452301},
		{2, 8, 0x80ffefcdab896745},
	} {
		if x, ok := Get(b, c.at, c.n); !ok || x != c.want {
			t.Errorf("Get(%d, %d): %#x %v, want %#x", c.at, c.n, x, ok, c.want)
		}
	}
}

// P1.1: what isn't there is refused, and nothing is changed.
func TestWrongSpansAreRefused(t *testing.T) {
	b := filled(10)
	for _, c := range wrong() {
		if Put(b, c[0], c[1], math.MaxUint64) {
			t.Errorf("Put(%d, %d): true", c[0], c[1])
		}
		if !bytes.Equal(b, filled(10)) {
			t.Fatalf("Put(%d, %d) changed: % x", c[0], c[1], b)
		}
		if x, ok := Get(b, c[0], c[1]); ok || x != 0 {
			t.Errorf("Get(%d, %d): %#x %v", c[0], c[1], x, ok)
		}
	}
}

// P1.1: a list may be too short for a width, or have nothing at all.
func TestShortLists(t *testing.T) {
	for size := range 10 {
		for n := 1; n <= 8; n++ {
			b, want := filled(size), n <= size
			if _, ok := Get(b, 0, n); ok != want {
				t.Errorf("Get of %d bytes in %d: %v", n, size, ok)
			}
			if ok := Put(b, 0, n, 0); ok != want || !ok && !bytes.Equal(b, filled(size)) {
				t.Errorf("Put of %d bytes in %d: %v, % x", n, size, ok, b)
			}
		}
	}
	if Put(nil, 0, 1, 1) {
		t.Error("Put into nil")
	}
	if x, ok := Get(nil, 0, 1); ok || x != 0 {
		t.Error("Get from nil")
	}
}

// P1.1: bytes that a slice could grow into are none of its own.
func TestCapacityIsNoLength(t *testing.T) {
	b := filled(8)
	if Put(b[:3], 2, 2, 0) || !bytes.Equal(b, filled(8)) {
		t.Errorf("Put: % x", b)
	}
	if x, ok := Get(b[:3], 2, 2); ok || x != 0 {
		t.Errorf("Get: %#x %v", x, ok)
	}
}

// P1.1: what is left of a number in n bytes.
func TestCut(t *testing.T) {
	const x = 0xfedcba9876543210
	for _, c := range []struct {
		x    uint64
		n    int
		want uint64
	}{
		{258, 1, 2},
		{258, 2, 258},
		{x, 1, 0x10},
		{x, 2, 0x3210},
		{x, 3, 0x543210},
		{x, 4, 0x76543210},
		{x, 5, 0x9876543210},
		{x, 6, 0xba9876543210},
		{x, 7, 0xdcba9876543210},
		{x, 8, x},
		{x, 9, x},
		{x, 64, x},
		{x, math.MaxInt, x},
		{x, 0, 0},
		{x, -1, 0},
		{x, -8, 0},
		{x, math.MinInt, 0},
		{0, 4, 0},
		{math.MaxUint64, 8, math.MaxUint64},
		{math.MaxUint64, 7, 1<<56 - 1},
		{1 << 56, 7, 0},
	} {
		if got := Cut(c.x, c.n); got != c.want {
			t.Errorf("Cut(%#x, %d): %#x, want %#x", c.x, c.n, got, c.want)
		}
	}
}

// P1.2: what was put is got, cut; no other byte is changed.
func TestPutIsGot(t *testing.T) {
	for _, x := range numbers() {
		for n := 1; n <= 8; n++ {
			for at := 0; at+n <= 12; at++ {
				b, was := filled(12), filled(12)
				if !Put(b, at, n, x) {
					t.Fatalf("Put(%d, %d): false", at, n)
				}
				if got, ok := Get(b, at, n); !ok || got != Cut(x, n) {
					t.Fatalf("Put(%d, %d, %#x), and Get: %#x %v", at, n, x, got, ok)
				}
				if !bytes.Equal(b[:at], was[:at]) || !bytes.Equal(b[at+n:], was[at+n:]) {
					t.Fatalf("Put(%d, %d, %#x) changed others: % x", at, n, x, b)
				}
			}
		}
	}
}

// P1.2: what is got, put again, changes nothing; neither does Get itself.
func TestGotIsPut(t *testing.T) {
	b := filled(12)
	for n := 1; n <= 8; n++ {
		for at := 0; at+n <= len(b); at++ {
			x, ok := Get(b, at, n)
			if !ok || !Put(b, at, n, x) || !bytes.Equal(b, filled(12)) {
				t.Fatalf("Get(%d, %d), and Put of %#x: % x", at, n, x, b)
			}
		}
	}
}

// P1.2: a number that was cut is put as the whole one is.
func TestCutIsWhatPutLays(t *testing.T) {
	for _, x := range numbers() {
		for n := 1; n <= 8; n++ {
			whole, cut := filled(10), filled(10)
			if !Put(whole, 1, n, x) || !Put(cut, 1, n, Cut(x, n)) || !bytes.Equal(whole, cut) {
				t.Fatalf("%#x in %d: % x, % x", x, n, whole, cut)
			}
		}
	}
}
