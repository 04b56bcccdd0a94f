package crc

import (
	"bytes"
	"hash/crc32"
	"math/bits"
	"slices"
	"testing"
)

// text answers size bytes that follow no simple pattern.
func text(size int) []byte {
	b, x := make([]byte, size), uint32(size)
	for i := range b {
		x = x*1664525 + 1013904223
		b[i] = byte(x >> 24)
	}
	return b
}

// texts holds texts of all small lengths, some greater ones, and some of like
// bytes only.
func texts() [][]byte {
	l := [][]byte{nil, {}}
	for size := range 70 {
		l = append(l, text(size), make([]byte, size), bytes.Repeat([]byte{0xff}, size))
	}
	return append(l, text(255), text(256), text(257), text(4096), text(1<<16+3))
}

// four answers a sum's bytes, the lowest first.
func four(sum uint32) []byte {
	return []byte{byte(sum), byte(sum >> 8), byte(sum >> 16), byte(sum >> 24)}
}

// turned answers b with the bits of mask turned, the mask's lowest bit lying at
// bit at of b.
func turned(b []byte, at int, mask uint32) []byte {
	l := slices.Clone(b)
	for i := range 32 {
		if mask>>i&1 == 1 {
			l[(at+i)/8] ^= 1 << ((at + i) % 8)
		}
	}
	return l
}

// masks holds rows of bits that begin with a 1 and have at most 32 bits: all
// the short ones, and many of every width.
func masks() []uint32 {
	l := []uint32{}
	for m := uint32(1); m < 1<<8; m += 2 {
		l = append(l, m)
	}
	x := uint32(1)
	for width := 9; width <= 32; width++ {
		top := uint32(1)<<(width-1) | 1
		l = append(l, top, top|(top-1))
		for range 6 {
			x = x*1664525 + 1013904223
			l = append(l, top|x>>(32-width))
		}
	}
	return l
}

// P2.1: the sum, by what is known of it elsewhere.
func TestSumOfKnownTexts(t *testing.T) {
	for _, c := range []struct {
		b    string
		want uint32
	}{
		{"", 0},
		{"\x00", 0xd202ef8d},
		{"\xff", 0xff000000},
		{"a", 0xe8b7be43},
		{"abc", 0x352441c2},
		{"123456789", 0xcbf43926},
		{"The quick brown fox jumps over the lazy dog", 0x414fa339},
		{"\x00\x00\x00\x00", 0x2144df1c},
		{"\xff\xff\xff\xff", 0xffffffff},
		{string(make([]byte, 32)), 0x190a55ad},
		{string(bytes.Repeat([]byte{0xff}, 32)), 0xff6cab0b},
	} {
		if got := Sum([]byte(c.b)); got != c.want {
			t.Errorf("%q: %08x, want %08x", c.b, got, c.want)
		}
	}
	if got := Sum(nil); got != 0 {
		t.Errorf("nil: %08x", got)
	}
}

// P2.1: the sum of every single byte, and of texts of many lengths.
func TestSumIsThatOfIEEE(t *testing.T) {
	for c := range 256 {
		b := []byte{byte(c)}
		if got, want := Sum(b), crc32.ChecksumIEEE(b); got != want {
			t.Errorf("% x: %08x, want %08x", b, got, want)
		}
	}
	for _, b := range texts() {
		if got, want := Sum(b), crc32.ChecksumIEEE(b); got != want {
			t.Errorf("%d bytes: %08x, want %08x", len(b), got, want)
		}
	}
}

// P2.1: wherever a text is cut, More of the first piece's sum is the whole's.
func TestMoreGoesOn(t *testing.T) {
	for _, b := range texts() {
		for at := 0; at <= len(b); at += 1 + len(b)/80 {
			if got, want := More(Sum(b[:at]), b[at:]), crc32.ChecksumIEEE(b); got != want {
				t.Fatalf("%d bytes, cut at %d: %08x, want %08x", len(b), at, got, want)
			}
		}
		sum := uint32(0)
		for _, c := range b {
			sum = More(sum, []byte{c})
		}
		if want := crc32.ChecksumIEEE(b); sum != want {
			t.Errorf("%d bytes, one by one: %08x, want %08x", len(b), sum, want)
		}
	}
}

// P2.1: any number is some text's sum; nothing behind leaves it as it is.
func TestMoreOfAnySum(t *testing.T) {
	for _, sum := range []uint32{0, 1, 0x7fffffff, 0x80000000, 0xcbf43926, 0xedb88320, 0xfffffffe, 0xffffffff} {
		if got := More(sum, nil); got != sum {
			t.Errorf("%08x and nil: %08x", sum, got)
		}
		if got := More(sum, []byte{}); got != sum {
			t.Errorf("%08x and nothing: %08x", sum, got)
		}
		b := text(37)
		if got, want := More(sum, b), crc32.Update(sum, crc32.IEEETable, b); got != want {
			t.Errorf("%08x and 37 bytes: %08x, want %08x", sum, got, want)
		}
	}
}

// P2.2: the sum stands behind, its lowest byte first.
func TestSealLaysTheSumBehind(t *testing.T) {
	want := append([]byte("123456789"), 0x26, 0x39, 0xf4, 0xcb)
	if got := Seal([]byte("123456789")); !bytes.Equal(got, want) {
		t.Errorf("% x, want % x", got, want)
	}
	for _, b := range texts() {
		want := append(slices.Clone(b), four(crc32.ChecksumIEEE(b))...)
		if got := Seal(b); !bytes.Equal(got, want) {
			t.Errorf("%d bytes: % x, want % x", len(b), got, want)
		}
	}
}

// P2.2: less than a sum's four bytes is never right; a sum of nothing is.
func TestRightOfShortTexts(t *testing.T) {
	for size := range 4 {
		for _, c := range []byte{0, 0xff} {
			if Right(bytes.Repeat([]byte{c}, size)) {
				t.Errorf("%d bytes %02x: right", size, c)
			}
		}
	}
	if Right(nil) {
		t.Error("nil: right")
	}
	if b := []byte{0, 0, 0, 0, 0}; Right(b[:3]) {
		t.Error("bytes that a slice could grow into were taken for its own")
	}
	if !Right([]byte{0, 0, 0, 0}) {
		t.Error("the sum of nothing: wrong")
	}
	for at := range 32 {
		if b := turned(make([]byte, 4), at, 1); Right(b) {
			t.Errorf("% x: right", b)
		}
	}
}

// P2.2: another sum, the sum the other way round, or one that covers other
// bytes than those ahead, isn't right.
func TestRightOfOtherSums(t *testing.T) {
	b := []byte("123456789")
	sum := crc32.ChecksumIEEE(b)
	if !Right(append(slices.Clone(b), four(sum)...)) {
		t.Error("the sum: wrong")
	}
	for _, other := range []uint32{0, ^sum, sum + 1, sum - 1, bits.ReverseBytes32(sum), bits.Reverse32(sum), crc32.ChecksumIEEE(b[1:]), crc32.ChecksumIEEE(b[:8])} {
		if Right(append(slices.Clone(b), four(other)...)) {
			t.Errorf("%08x: right", other)
		}
	}
	sealed := Seal(b)
	for size := range sealed {
		if Right(sealed[:size]) {
			t.Errorf("%d of %d bytes: right", size, len(sealed))
		}
	}
	if Right(append(sealed, 0)) {
		t.Error("a byte behind the sum: right")
	}
}

// P2.3: texts that differ in a row of bits have unlike sums.
func TestRowsOfBitsChangeTheSum(t *testing.T) {
	for _, size := range []int{1, 2, 3, 4, 5, 8, 13, 32, 64} {
		b := text(size)
		sum := Sum(b)
		for _, mask := range masks() {
			for at := 0; at+bits.Len32(mask) <= 8*size; at++ {
				if Sum(turned(b, at, mask)) == sum {
					t.Fatalf("%d bytes, bits %b at %d: one sum", size, mask, at)
				}
			}
		}
	}
}

// P2.3: what is sealed is right, and a row of bits turned in it, be it in the
// sum, makes it wrong.
func TestSealedIsRight(t *testing.T) {
	for _, b := range texts() {
		if !Right(Seal(b)) || !Right(Seal(Seal(b))) {
			t.Errorf("%d bytes: wrong", len(b))
		}
	}
	for _, size := range []int{0, 1, 9, 60} {
		sealed := Seal(text(size))
		for _, mask := range masks() {
			for at := 0; at+bits.Len32(mask) <= 8*len(sealed); at++ {
				if Right(turned(sealed, at, mask)) {
					t.Fatalf("%d bytes, bits %b at %d: right", size, mask, at)
				}
			}
		}
	}
}

// P2.4: no call changes what it was handed, nor what lies behind it.
func TestWhatIsHandedInStays(t *testing.T) {
	for _, size := range []int{0, 1, 4, 9, 64} {
		all := text(size + 16)
		b := all[:size]
		Sum(b)
		More(7, b)
		Seal(b)
		Right(b)
		if !bytes.Equal(all, text(size+16)) {
			t.Errorf("%d bytes were changed: % x", size, all)
		}
	}
}

// P2.4: what Seal answers shares nothing with what it was handed, nor with
// another answer.
func TestSealedIsNew(t *testing.T) {
	for _, size := range []int{0, 1, 9, 64} {
		b := append(make([]byte, 0, size+8), text(size)...)
		first, second := Seal(b), Seal(b)
		want := slices.Clone(second)
		clear(first)
		if !bytes.Equal(b, text(size)) || !bytes.Equal(second, want) {
			t.Errorf("%d bytes: a change of an answer is seen elsewhere", size)
		}
		clear(b)
		if !bytes.Equal(second, want) {
			t.Errorf("%d bytes: an answer hangs on what was handed in", size)
		}
	}
}
