package pack

import (
	"bytes"
	"slices"

	"tramway/api"
	"tramway/nums"
	"tramway/sha"
	"tramway/sums"
)

const (
	indexMark  = "\xfftOc"
	countsAt   = len(indexMark) + 4
	idsAt      = countsAt + 256*4
	perEntry   = sumSize + 4 + 4
	indexEmpty = idsAt + 2*sumSize
)

// known is an entry as an index tells it.
type known struct {
	id         api.Id
	crc, begin int
}

// Index tells a pack's index.
func Index(b []byte) ([]byte, api.Errno) {
	r, e := read(b)
	if e != api.OK {
		return nil, e
	}
	var l []known
	for _, x := range r.entries {
		l = append(l, known{x.id(), int(sums.Crc(b[x.begin:x.end])), x.begin})
	}
	slices.SortStableFunc(l, func(a, b known) int { return bytes.Compare(a.id[:], b.id[:]) })
	out := append([]byte(indexMark), nums.Be(version, 4)...)
	number := func(n int) { out = append(out, nums.Be(uint64(n), 4)...) }
	for _, n := range counts(l) {
		number(n)
	}
	for _, x := range l {
		out = append(out, x.id[:]...)
	}
	for _, x := range l {
		number(x.crc)
	}
	for _, x := range l {
		number(x.begin)
	}
	return closed(append(out, b[len(b)-sumSize:]...)), api.OK
}

// counts tells of each byte how many ids have a first byte that isn't above it.
func counts(l []known) [256]int {
	var n [256]int
	for _, x := range l {
		n[x.id[0]]++
	}
	for i := 1; i < len(n); i++ {
		n[i] += n[i-1]
	}
	return n
}

// table is an index whose parts lie where they should.
type table struct {
	b []byte
	n int
}

func (t table) number(at int) int { return int(nums.FromBe(t.b[at : at+4])) }

func (t table) id(i int) []byte { return t.b[idsAt+sumSize*i:][:sumSize] }

func (t table) begin(i int) int { return t.number(idsAt + (sumSize+4)*t.n + 4*i) }

// Find tells where the object with that id begins.
func Find(index []byte, id api.Id) (int, api.Errno) {
	t, ok := tableOf(index)
	if !ok {
		return 0, api.ErrForm
	}
	i := t.place(id)
	if i == t.n || idOf(t.id(i)) != id {
		return 0, api.ErrNone
	}
	return t.begin(i), api.OK
}

// place is the first one whose id isn't less, looked for by halves.
func (t table) place(id api.Id) int {
	low, high := 0, t.n
	for low < high {
		middle := (low + high) / 2
		if bytes.Compare(t.id(middle), id[:]) < 0 {
			low = middle + 1
		} else {
			high = middle
		}
	}
	return low
}

// tableOf is the index b, and whether it is right.
func tableOf(b []byte) (table, bool) {
	t := table{b: b}
	if len(b) < indexEmpty || string(b[:len(indexMark)]) != indexMark || t.number(len(indexMark)) != version {
		return table{}, false
	}
	t.n = t.number(idsAt - 4)
	if len(b) != indexEmpty+perEntry*t.n || !t.rightOrder() {
		return table{}, false
	}
	end := len(b) - sumSize
	return t, sha.Sum(b[:end]) == idOf(b[end:])
}

// rightOrder: do neither numbers nor ids fall, and are the ids' first bytes as the numbers say?
func (t table) rightOrder() bool {
	for i := 1; i < t.n; i++ {
		if bytes.Compare(t.id(i-1), t.id(i)) > 0 {
			return false
		}
	}
	from := 0
	for first := range 256 {
		to := t.number(countsAt + 4*first)
		if to < from || to > t.n {
			return false
		}
		for i := from; i < to; i++ {
			if int(t.id(i)[0]) != first {
				return false
			}
		}
		from = to
	}
	return true
}
