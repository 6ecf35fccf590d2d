package pack

import (
	"tramway/api"
	"tramway/delta"
	"tramway/nums"
	"tramway/zlib"
)

// So many objects of one kind are tried as what the next one goes by.
const mostTries = 4

// Small tells a pack of objects that isn't greater than Write's: those go by others where that is shorter.
func Small(l []Item) ([]byte, api.Errno) {
	if e := check(l); e != api.OK {
		return nil, e
	}
	b := front(len(l))
	begins := make([]int, len(l))
	for i, item := range l {
		begins[i] = len(b)
		best := whole(item)
		if base, d := nearest(l[:i], item); base >= 0 {
			if other := byOther(len(b)-begins[base], d); len(other) < len(best) {
				best = other
			}
		}
		b = append(b, best...)
	}
	return closed(b), api.OK
}

// nearest tells which of the last objects of item's kind has the shortest delta to it, and that; -1, if none is
// shorter than item itself.
func nearest(ahead []Item, item Item) (int, []byte) {
	at, best := -1, item.Body
	tries := 0
	for i := len(ahead) - 1; i >= 0 && tries < mostTries; i-- {
		if ahead[i].Kind != item.Kind {
			continue
		}
		tries++
		if d := delta.Make(ahead[i].Body, item.Body); len(d) < len(best) {
			at, best = i, d
		}
	}
	return at, best
}

// byOther is the entry of a delta of what begins so far ahead.
func byOther(far int, d []byte) []byte {
	b := append(nums.Head(byPlace, len(d)), nums.Ofs(far)...)
	return append(b, zlib.Wrap(d)...)
}
