package pack

import (
	"tramway/api"
	"tramway/delta"
	"tramway/nums"
	"tramway/object"
	"tramway/sha"
	"tramway/zlib"
)

// entry is an object, and where it lies in the pack.
type entry struct {
	Item
	begin, end int
}

func (x entry) id() api.Id {
	id, _ := object.Id(x.Kind, x.Body)
	return id
}

// idOf is the id that b begins with.
func idOf(b []byte) api.Id {
	var id api.Id
	copy(id[:], b)
	return id
}

// rest is the bytes that are left, and where they begin in the pack.
type rest struct {
	left []byte
	at   int
}

func (r *rest) skip(n int) {
	r.left = r.left[n:]
	r.at += n
}

// reader goes through a pack's entries.
type reader struct {
	rest
	entries []entry
	places  map[int]int    // which entry begins there
	ids     map[api.Id]int // which entry has that id, of those that were asked for so far
	known   int            // how many entries ids knows
}

// read goes through all of b's entries.
func read(b []byte) (*reader, api.Errno) {
	n, e := howMany(b)
	if e != api.OK {
		return nil, e
	}
	end := len(b) - sumSize
	r := &reader{rest: rest{b[frontSize:end], frontSize}, places: map[int]int{}, ids: map[api.Id]int{}}
	for range n {
		if e := r.entry(); e != api.OK {
			return nil, e
		}
	}
	if len(r.left) > 0 {
		return nil, api.ErrForm
	}
	return r, api.OK
}

// howMany entries b tells, if it is a pack but for these.
func howMany(b []byte) (int, api.Errno) {
	if len(b) < frontSize+sumSize {
		return 0, api.ErrEnd
	}
	if string(b[:len(mark)]) != mark || nums.FromBe(b[4:8]) != version {
		return 0, api.ErrForm
	}
	n := int(nums.FromBe(b[8:frontSize]))
	if n > api.MaxItems {
		return 0, api.ErrLong
	}
	end := len(b) - sumSize
	if sha.Sum(b[:end]) != idOf(b[end:]) {
		return 0, api.ErrSum
	}
	return n, api.OK
}

// entry reads the next one.
func (r *reader) entry() api.Errno {
	x := entry{begin: r.at}
	kind, size, n, e := nums.FromHead(r.left)
	if e != api.OK {
		return e
	}
	if size > api.MaxBody {
		return api.ErrLong
	}
	r.skip(n)
	base, e := r.base(kind, x.begin)
	if e != api.OK {
		return e
	}
	x.Kind = kind
	x.Body, n, e = zlib.Open(r.left, size)
	if e != api.OK {
		return e
	}
	if len(x.Body) < size {
		return api.ErrForm
	}
	r.skip(n)
	if base != nil {
		x.Kind = base.Kind
		x.Body, e = delta.Apply(base.Body, x.Body, api.MaxBody)
	}
	x.end = r.at
	r.places[x.begin] = len(r.entries)
	r.entries = append(r.entries, x)
	return e
}

// base is the entry that one of this kind, which begins there, goes by: nil of one by itself.
func (r *reader) base(kind, begin int) (*entry, api.Errno) {
	switch kind {
	case byPlace:
		far, n, e := nums.FromOfs(r.left)
		if e != api.OK {
			return nil, e
		}
		r.skip(n)
		i, ok := r.places[begin-far]
		if !ok {
			return nil, api.ErrForm
		}
		return &r.entries[i], api.OK
	case byId:
		if len(r.left) < sumSize {
			return nil, api.ErrEnd
		}
		id := idOf(r.left)
		r.skip(sumSize)
		r.learn()
		i, ok := r.ids[id]
		if !ok {
			return nil, api.ErrNone
		}
		return &r.entries[i], api.OK
	}
	if object.Word(kind) == "" {
		return nil, api.ErrForm
	}
	return nil, api.OK
}

// learn takes the ids of the entries so far: they cost much, and few packs ask for them.
func (r *reader) learn() {
	for i := r.known; i < len(r.entries); i++ {
		r.ids[r.entries[i].id()] = i
	}
	r.known = len(r.entries)
}
