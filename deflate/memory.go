package deflate

const (
	shortest = 3
	longest  = 258
	farthest = 32768
	// So many rows of three bytes are kept before they are all forgotten: more than lie in reach.
	mostKept = 2 * farthest
)

// row is what is met: so many bytes.
type row [shortest]byte

func rowAt(b []byte, at int) row { return row{b[at], b[at+1], b[at+2]} }

// memory keeps where each row of three bytes was met last.
type memory struct{ met map[row]int }

func newMemory() memory { return memory{map[row]int{}} }

// keep keeps the row that begins at the place at.
func (m memory) keep(b []byte, at int) {
	if at+shortest > len(b) {
		return
	}
	if len(m.met) >= mostKept {
		clear(m.met)
	}
	m.met[rowAt(b, at)] = at
}

// find tells how many bytes at the place at were met in reach, and how far behind; 0, if too few were.
func (m memory) find(b []byte, at int) (int, int) {
	if at+shortest > len(b) {
		return 0, 0
	}
	from, ok := m.met[rowAt(b, at)]
	if !ok || at-from > farthest {
		return 0, 0
	}
	n, most := shortest, min(longest, len(b)-at)
	for n < most && b[from+n] == b[at+n] {
		n++
	}
	return n, at - from
}
