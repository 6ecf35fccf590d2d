package files

import "slices"

// file is one: what stands of it, what is kept of it, and the changes that aren't kept yet.
type file struct {
	stands, kept []byte
	open         []change
}

// change is a write of b from at on, or a cut there.
type change struct {
	cut bool
	at  int
	b   []byte
}

// size is 0 of a file that isn't there.
func (f *file) size() int {
	if f == nil {
		return 0
	}
	return len(f.stands)
}

func (f *file) change(c change) {
	f.stands = c.apply(f.stands)
	f.open = append(f.open, c)
}

// apply works in b's own room where it can.
func (c change) apply(b []byte) []byte {
	if c.cut {
		return b[:c.at]
	}
	n := copy(b[c.at:], c.b)
	return append(b, c.b[n:]...)
}

func (f *file) keepAll() {
	f.kept = slices.Clone(f.stands)
	f.open = nil
}

// crash leaves what was kept and the first n of the open changes.
func (f *file) crash(n int) {
	f.stands = f.kept
	for _, c := range f.open[:min(max(n, 0), len(f.open))] {
		f.stands = c.apply(f.stands)
	}
	f.keepAll()
}
