package deflate

import "math/bits"

const blockEnd = 256

// writer gathers bits, the lowest one of each byte first.
type writer struct {
	b    []byte
	held uint64 // bits that fill no byte yet
	n    int    // how many
}

// number puts a number of n bits, the lowest first.
func (w *writer) number(x, n int) {
	w.held |= uint64(x) << w.n
	w.n += n
	for w.n >= 8 {
		w.b = append(w.b, byte(w.held))
		w.held >>= 8
		w.n -= 8
	}
}

// code puts a code of n bits, the highest first.
func (w *writer) code(x, n int) {
	w.number(int(bits.Reverse16(uint16(x))>>(16-n)), n)
}

// bytes are all that were filled, the last one with noughts.
func (w *writer) bytes() []byte {
	if w.n > 0 {
		w.number(0, 8-w.n)
	}
	return w.b
}

// sign puts the fixed code of a sign.
func (w *writer) sign(x int) {
	switch {
	case x <= 143:
		w.code(0x30+x, 8)
	case x <= 255:
		w.code(0x190+x-144, 9)
	case x <= 279:
		w.code(x-256, 7)
	default:
		w.code(0xc0+x-280, 8)
	}
}

// length puts a length from 3 to 258 as its sign and further bits.
func (w *writer) length(n int) {
	switch {
	case n == longest:
		w.sign(285)
	case n <= 10:
		w.sign(254 + n)
	default:
		// n - 3 is its highest bit, two bits that the sign tells, and the further ones.
		x := n - 3
		further := bits.Len(uint(x)) - 3
		w.sign(261 + 4*further + x>>further&3)
		w.number(x&(1<<further-1), further)
	}
}

// distance puts one from 1 to 32768 as its sign and further bits.
func (w *writer) distance(n int) {
	x := n - 1
	if x <= 3 {
		w.code(x, 5)
		return
	}
	// x is its highest bit, one bit that the sign tells, and the further ones.
	further := bits.Len(uint(x)) - 2
	w.code(2+2*further+x>>further&1, 5)
	w.number(x&(1<<further-1), further)
}
