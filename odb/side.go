package odb

import (
	"bytes"
	"slices"
	"strings"

	"tramway/api"
	"tramway/files"
	"tramway/lay"
	"tramway/object"
	"tramway/pack"
	"tramway/sha"
)

const (
	objectsDir  = "objects/"
	packDir     = "pack/"
	packEnding  = ".pack"
	indexEnding = ".idx"
)

// side is an object store under its front.
type side struct {
	s     *files.Store
	front string
	// Both are kept where all objects are gone through: where each lies, and the packs that were read.
	places map[api.Id]place
	packs  map[string]shelf
}

// place is where an object begins in the pack of these digits; without digits it is loose.
type place struct {
	hex   string
	begin int
}

func (d *side) path(name string) string { return lay.Under(d.front, name) }

func (d *side) packPath(hex string) string { return d.path(packDir + hex + packEnding) }

func (d *side) indexPath(hex string) string { return d.path(packDir + hex + indexEnding) }

// lay lays down the file of that name.
func (d *side) lay(name string, b []byte) api.Errno {
	return lay.Down(d.s, d.path("tmp"), d.path(name), b)
}

// hexes are the digits of the files with that ending that are packs or indexes by their names, rising.
func (d *side) hexes(ending string) []string {
	var l []string
	for _, path := range d.s.List(d.path(packDir)) {
		hex, ok := strings.CutSuffix(strings.TrimPrefix(path, d.path(packDir)), ending)
		if _, e := sha.Parse(hex); ok && e == api.OK {
			l = append(l, hex)
		}
	}
	return l
}

// loose are the paths of all loose files.
func (d *side) loose() []string { return d.s.List(d.path(objectsDir)) }

// looseId is the id that a loose file's path tells.
func (d *side) looseId(path string) (api.Id, api.Errno) {
	digits := strings.ReplaceAll(strings.TrimPrefix(path, d.path(objectsDir)), "/", "")
	id, e := sha.Parse(digits)
	if e != api.OK || d.path(object.Path(id)) != path {
		return api.Id{}, api.ErrForm
	}
	return id, api.OK
}

// learn takes the places that loose files' names and indexes tell, of each object the first.
func (d *side) learn() api.Errno {
	d.places, d.packs = map[api.Id]place{}, map[string]shelf{}
	for _, path := range d.loose() {
		id, e := d.looseId(path)
		if e != api.OK {
			return e
		}
		d.places[id] = place{}
	}
	for _, hex := range d.hexes(indexEnding) {
		index, _ := d.s.Read(d.indexPath(hex))
		if _, e := pack.Find(index, api.Id{}); e == api.ErrForm {
			return e
		}
		for _, x := range listed(index) {
			if _, ok := d.places[x.id]; !ok {
				d.places[x.id] = place{hex, x.begin}
			}
		}
	}
	return api.OK
}

// ids are those of all places, rising.
func (d *side) ids() []api.Id {
	var l []api.Id
	for id := range d.places {
		l = append(l, id)
	}
	slices.SortFunc(l, func(a, b api.Id) int { return bytes.Compare(a[:], b[:]) })
	return l
}

// get tells the object with that id: the loose one, or that of the first pack whose index tells where it is.
func (d *side) get(id api.Id) (int, []byte, api.Errno) {
	if b, e := d.s.Read(d.path(object.Path(id))); e == api.OK {
		return opened(b, id)
	}
	at, ok := d.find(id)
	if !ok {
		return 0, nil, api.ErrNone
	}
	return d.packed(at, id)
}

// find tells where the first index that has the id tells it.
func (d *side) find(id api.Id) (place, bool) {
	if d.places != nil {
		at, ok := d.places[id]
		return at, ok
	}
	for _, hex := range d.hexes(indexEnding) {
		index, _ := d.s.Read(d.indexPath(hex))
		if begin, e := pack.Find(index, id); e == api.OK {
			return place{hex, begin}, true
		}
	}
	return place{}, false
}

// opened tells the loose object b, that should have that id.
func opened(b []byte, id api.Id) (int, []byte, api.Errno) {
	kind, body, e := object.Open(b)
	if e != api.OK {
		return 0, nil, e
	}
	if got, _ := object.Id(kind, body); got != id {
		return 0, nil, api.ErrSum
	}
	return kind, body, api.OK
}

// packed tells the object that should begin there in a pack.
func (d *side) packed(at place, id api.Id) (int, []byte, api.Errno) {
	p, ok := d.packs[at.hex]
	if !ok {
		b, e := d.s.Read(d.packPath(at.hex))
		if e != api.OK {
			return 0, nil, api.ErrNone
		}
		p = shelfOf(b)
		if d.packs != nil {
			d.packs[at.hex] = p
		}
	}
	return p.get(at.begin, id)
}
