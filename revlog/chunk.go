package revlog

import (
	"tramway/patch"
	"tramway/zlib"
)

// chunkOf tells the base and the chunk of r behind revs: a patch of its first parent (or of the last revision), if
// that is much shorter than the text, which spares packing the text.
func chunkOf(revs []Rev, r Rev) (int, []byte) {
	base := r.P1
	if base < 0 {
		base = len(revs) - 1
	}
	if base >= 0 {
		if p := patch.Make(revs[base].Text, r.Text); len(p) < len(r.Text)/2 {
			return base, shorter(p)
		}
	}
	return len(revs), shorter(r.Text)
}

// shorter is the chunk that holds b, packed or as it is.
func shorter(b []byte) []byte {
	plain := asItIs(b)
	if packed := zlib.Wrap(b); len(packed) < len(plain) {
		return packed
	}
	return plain
}

// asItIs is a chunk that holds b itself.
func asItIs(b []byte) []byte {
	if len(b) == 0 || b[0] == 0 {
		return b
	}
	return append([]byte{'u'}, b...)
}
