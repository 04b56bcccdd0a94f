// Package word is layer 1: integers encoded in bytes, the lowest byte first.
// See shared/doc/01-word.md.
package word

// widest is how many bytes the greatest numbers take.
const widest = 8

// Put lays x in n bytes of b, from the place at on; false, and nothing is
// changed, if n isn't from 1 to 8 or these bytes aren't all in b.
func Put(b []byte, at, n int, x uint64) bool {
	if !inside(b, at, n) {
		return false
	}
	for i := range n {
		b[at+i] = byte(x >> (8 * i))
	}
	return true
}

// Get tells the number that stands in n bytes of b, from the place at on; 0
// and false, if n isn't from 1 to 8 or these bytes aren't all in b.
func Get(b []byte, at, n int) (uint64, bool) {
	if !inside(b, at, n) {
		return 0, false
	}
	var x uint64
	for i := range n {
		x |= uint64(b[at+i]) << (8 * i)
	}
	return x, true
}

// Cut tells what is left of x in n bytes.
func Cut(x uint64, n int) uint64 {
	switch {
	case n < 1:
		return 0
	case n >= widest:
		return x
	}
	return x & (1<<(8*n) - 1)
}

// inside tells whether b has n bytes from the place at on, for an n from 1 to
// 8. It takes n from b's length, because at + n could be beyond what an int
// holds.
func inside(b []byte, at, n int) bool {
	return n >= 1 && n <= widest && at >= 0 && at <= len(b)-n
}
