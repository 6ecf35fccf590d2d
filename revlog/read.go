package revlog

import (
	"slices"

	"tramway/api"
	"tramway/halt"
	"tramway/patch"
	"tramway/zlib"
)

// reader goes through a log.
type reader struct {
	left   []byte
	chunks int // how many bytes those so far have
	revs   []Rev
	nodes  []api.Id
}

// Read tells a log's revisions, and their nodes.
func Read(b []byte) ([]Rev, []api.Id, api.Errno) {
	r := reader{left: b}
	e := halt.Run(func() {
		for len(r.left) > 0 {
			r.revision()
		}
	})
	if e != api.OK {
		return nil, nil, e
	}
	return r.revs, r.nodes, api.OK
}

func (r *reader) take(n int) []byte {
	halt.Unless(n <= len(r.left), api.ErrEnd)
	b := r.left[:n]
	r.left = r.left[n:]
	return b
}

func (r *reader) revision() {
	n := len(r.revs)
	halt.Unless(n < api.MaxItems, api.ErrLong)
	f, ok := frontOf(r.take(frontSize), n, r.chunks)
	halt.Unless(ok, api.ErrForm)
	halt.Unless(f.text <= api.MaxBody, api.ErrLong)
	chunk := r.take(f.chunk)
	r.chunks += f.chunk
	text := r.text(f.base, r.held(chunk))
	halt.Unless(len(text) == f.text, api.ErrForm)
	halt.Unless(Node(nodeAt(r.nodes, f.p1), nodeAt(r.nodes, f.p2), text) == f.node, api.ErrSum)
	r.revs = append(r.revs, Rev{f.p1, f.p2, f.link, text})
	r.nodes = append(r.nodes, f.node)
}

// held is what a chunk holds.
func (r *reader) held(chunk []byte) []byte {
	if len(chunk) == 0 {
		return nil
	}
	switch chunk[0] {
	case 0:
		return chunk
	case 'u':
		return chunk[1:]
	case 'x':
		b, n, e := zlib.Open(chunk, api.MaxBody)
		halt.On(e)
		halt.Unless(n == len(chunk), api.ErrForm)
		return b
	}
	halt.With(api.ErrForm)
	return nil
}

// text is the one of the next revision, with this base, whose chunk holds that.
func (r *reader) text(base int, held []byte) []byte {
	if base == len(r.revs) {
		return slices.Clone(held)
	}
	text, e := patch.Apply(r.revs[base].Text, held, api.MaxBody)
	halt.On(e)
	return text
}
