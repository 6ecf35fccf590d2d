package odb

import (
	"slices"

	"tramway/api"
	"tramway/nums"
	"tramway/object"
	"tramway/pack"
)

// Where the parts of an index lie.
const (
	lastCountAt = 8 + 255*4
	idsAt       = 8 + 256*4
	idSize      = len(api.Id{})
	crcSize     = 4
	beginSize   = 4
)

// spot is an entry as an index tells it.
type spot struct {
	id    api.Id
	begin int
}

// listed are the entries that an index tells, which is right, in its order.
func listed(index []byte) []spot {
	n := int(nums.FromBe(index[lastCountAt:idsAt]))
	l := make([]spot, n)
	ids, begins := index[idsAt:], index[idsAt+n*(idSize+crcSize):]
	for i := range l {
		copy(l[i].id[:], ids[i*idSize:])
		l[i].begin = int(nums.FromBe(begins[i*beginSize:][:beginSize]))
	}
	return l
}

// shelf is a pack that was read: where its objects begin, rising, and these; or its error.
type shelf struct {
	begins []int
	items  []pack.Item
	e      api.Errno
}

func shelfOf(b []byte) shelf {
	items, e := pack.Read(b)
	if e != api.OK {
		return shelf{e: e}
	}
	index, e := pack.Index(b)
	if e != api.OK {
		return shelf{e: e}
	}
	p := shelf{items: items}
	for _, x := range listed(index) {
		p.begins = append(p.begins, x.begin)
	}
	slices.Sort(p.begins)
	return p
}

// get tells the object that should begin there.
func (p shelf) get(begin int, id api.Id) (int, []byte, api.Errno) {
	if p.e != api.OK {
		return 0, nil, p.e
	}
	i, ok := slices.BinarySearch(p.begins, begin)
	if !ok {
		return 0, nil, api.ErrForm
	}
	kind, body := p.items[i].Kind, p.items[i].Body
	if got, _ := object.Id(kind, body); got != id {
		return 0, nil, api.ErrForm
	}
	return kind, body, api.OK
}
