package revlog

import (
	"slices"

	"tramway/api"
	"tramway/patch"
	"tramway/zlib"
)

// fault is what is thrown where a log doesn't go on.
type fault struct{ no api.Errno }

// reader goes through a log.
type reader struct {
	left   []byte
	chunks int // how many bytes those so far have
	revs   []Rev
	nodes  []api.Id
}

// Read tells a log's revisions, and their nodes.
func Read(b []byte) (revs []Rev, nodes []api.Id, no api.Errno) {
	defer func() {
		thrown := recover()
		if thrown == nil {
			return
		}
		f, ok := thrown.(fault)
		if !ok {
			panic(thrown)
		}
		revs, nodes, no = nil, nil, f.no
	}()
	r := reader{left: b}
	for len(r.left) > 0 {
		r.revision()
	}
	return r.revs, r.nodes, api.OK
}

// need throws the error, if it isn't so.
func (r *reader) need(so bool, no api.Errno) {
	if !so {
		panic(fault{no})
	}
}

func (r *reader) take(n int) []byte {
	r.need(n <= len(r.left), api.ErrEnd)
	b := r.left[:n]
	r.left = r.left[n:]
	return b
}

func (r *reader) revision() {
	n := len(r.revs)
	r.need(n < api.MaxItems, api.ErrLong)
	f, ok := frontOf(r.take(frontSize), n, r.chunks)
	r.need(ok, api.ErrForm)
	r.need(f.text <= api.MaxBody, api.ErrLong)
	chunk := r.take(f.chunk)
	r.chunks += f.chunk
	text := r.text(f.base, r.held(chunk))
	r.need(len(text) == f.text, api.ErrForm)
	r.need(Node(nodeAt(r.nodes, f.p1), nodeAt(r.nodes, f.p2), text) == f.node, api.ErrSum)
	r.revs = append(r.revs, Rev{f.p1, f.p2, f.link, text})
	r.nodes = append(r.nodes, f.node)
}

// held is what a chunk holds.
func (r *reader) held(chunk []byte) []byte {
	if len(chunk) == 0 {
		return nil
	}
	switch chunk[0] {
	case 0:
		return chunk
	case 'u':
		return chunk[1:]
	case 'x':
		b, n, e := zlib.Open(chunk, api.MaxBody)
		r.need(e == api.OK, e)
		r.need(n == len(chunk), api.ErrForm)
		return b
	}
	panic(fault{api.ErrForm})
}

// text is the one of the next revision, with this base, whose chunk holds that.
func (r *reader) text(base int, held []byte) []byte {
	if base == len(r.revs) {
		return slices.Clone(held)
	}
	text, e := patch.Apply(r.revs[base].Text, held, api.MaxBody)
	r.need(e == api.OK, e)
	return text
}
