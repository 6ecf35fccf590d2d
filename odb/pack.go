package odb

import (
	"bytes"
	"cmp"
	"slices"

	"tramway/api"
	"tramway/files"
	"tramway/pack"
	"tramway/sha"
)

// Pack lays all objects down in one pack, and removes what they were in.
func Pack(s *files.Store, front string) api.Errno {
	d := side{s: s, front: front}
	items, e := d.items()
	if e != api.OK || len(items) == 0 {
		return e
	}
	b, e := pack.Small(items)
	if e != api.OK {
		return e
	}
	index, e := pack.Index(b)
	if e != api.OK {
		return e
	}
	var sum api.Id
	copy(sum[:], b[len(b)-len(sum):])
	hex := sha.Hex(sum)
	if e := d.layOther(packDir+hex+packEnding, b); e != api.OK {
		return e
	}
	if e := d.layOther(packDir+hex+indexEnding, index); e != api.OK {
		return e
	}
	return d.removeOthers(hex)
}

// items are all objects, in an order in which those that may be alike stand together.
func (d *side) items() ([]pack.Item, api.Errno) {
	if e := d.learn(); e != api.OK {
		return nil, e
	}
	var l []pack.Item
	for _, id := range d.ids() {
		kind, body, e := d.get(id)
		if e != api.OK {
			return nil, e
		}
		l = append(l, pack.Item{Kind: kind, Body: body})
	}
	if len(l) > api.MaxItems {
		return nil, api.ErrLong
	}
	slices.SortStableFunc(l, func(a, b pack.Item) int {
		return cmp.Or(cmp.Compare(a.Kind, b.Kind), cmp.Compare(len(a.Body), len(b.Body)))
	})
	return l, api.OK
}

// layOther lays the file down. One that is there just so stays; but a crash might take what was written by others.
func (d *side) layOther(name string, b []byte) api.Errno {
	if there, e := d.s.Read(d.path(name)); e == api.OK && bytes.Equal(there, b) {
		return d.s.Sync(d.path(name))
	}
	return d.lay(name, b)
}

// removeOthers removes all but the pack of these digits: indexes first, for one that is there without its pack
// would hide what is there elsewhere.
func (d *side) removeOthers(hex string) api.Errno {
	var l []string
	for _, h := range d.hexes(indexEnding) {
		if h != hex {
			l = append(l, d.indexPath(h))
		}
	}
	for _, h := range d.hexes(packEnding) {
		if h != hex {
			l = append(l, d.packPath(h))
		}
	}
	for _, path := range append(l, d.loose()...) {
		if e := d.s.Remove(path); e != api.OK {
			return e
		}
	}
	return api.OK
}
