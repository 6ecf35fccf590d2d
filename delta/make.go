package delta

import "tramway/nums"

const (
	blockSize  = 16
	mostInsert = copies - 1
	mostCopy   = 1<<(8*sizeBytes) - 1
	mostPlace  = 1<<(8*placeBytes) - 1
)

// block is what is looked for in the base. A copy of one is shorter than it, so it never costs more than an insert.
type block [blockSize]byte

// writer gathers steps.
type writer struct {
	d       []byte
	pending []byte // what is to be inserted
}

// Make tells a delta by which base becomes target.
func Make(base, target []byte) []byte {
	w := writer{d: append(nums.Leb(len(base)), nums.Leb(len(target))...)}
	known := blocks(base)
	for at := 0; at < len(target); {
		place, ok := lookUp(known, target, at)
		if !ok {
			w.insert(target[at])
			at++
			continue
		}
		back := w.back(base[:place])
		size := blockSize + alike(base[place+blockSize:], target[at+blockSize:])
		w.copy(place-back, back+size)
		at += size
	}
	w.flush()
	return w.d
}

// blocks tells where each block of b begins first, of those that lie side by side.
func blocks(b []byte) map[block]int {
	known := map[block]int{}
	for at := 0; at+blockSize <= len(b) && at <= mostPlace; at += blockSize {
		k := blockAt(b, at)
		if _, ok := known[k]; !ok {
			known[k] = at
		}
	}
	return known
}

func blockAt(b []byte, at int) block {
	var k block
	copy(k[:], b[at:])
	return k
}

func lookUp(known map[block]int, target []byte, at int) (int, bool) {
	if at+blockSize > len(target) {
		return 0, false
	}
	place, ok := known[blockAt(target, at)]
	return place, ok
}

// alike tells how many bytes both begin with.
func alike(a, b []byte) int {
	n := 0
	for n < len(a) && n < len(b) && a[n] == b[n] {
		n++
	}
	return n
}

func (w *writer) insert(x byte) { w.pending = append(w.pending, x) }

// back takes as many pending bytes back as the base ends with ahead of the place that is copied, and tells how many.
func (w *writer) back(base []byte) int {
	n, m := 0, len(w.pending)
	for n < m && n < len(base) && w.pending[m-1-n] == base[len(base)-1-n] {
		n++
	}
	w.pending = w.pending[:m-n]
	return n
}

func (w *writer) flush() {
	for len(w.pending) > 0 {
		n := min(len(w.pending), mostInsert)
		w.d = append(w.d, byte(n))
		w.d = append(w.d, w.pending[:n]...)
		w.pending = w.pending[n:]
	}
	w.pending = w.pending[:0]
}

func (w *writer) copy(place, size int) {
	w.flush()
	for size > 0 {
		n := min(size, mostCopy)
		w.copyStep(place, n)
		place, size = place+n, size-n
	}
}

// copyStep puts one copy, of at most mostCopy bytes.
func (w *writer) copyStep(place, size int) {
	first := len(w.d)
	w.d = append(w.d, copies)
	x := place | size<<(8*placeBytes)
	for i := range placeBytes + sizeBytes {
		if b := byte(x >> (8 * i)); b != 0 {
			w.d[first] |= 1 << i
			w.d = append(w.d, b)
		}
	}
}
