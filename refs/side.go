package refs

import (
	"slices"
	"strings"

	"tramway/api"
	"tramway/files"
	"tramway/lay"
)

// side is where refs lie: a store, and a front.
type side struct {
	s     *files.Store
	front string
}

func (d side) path(name string) string { return lay.Under(d.front, name) }

// lay lays the file of that name down.
func (d side) lay(name string, b []byte) api.Errno {
	return lay.Down(d.s, d.path("tmp"), d.path(name), b)
}

// remove removes a file, if it is there.
func (d side) remove(path string) api.Errno {
	if _, e := d.s.Read(path); e != api.OK {
		return api.OK
	}
	return d.s.Remove(path)
}

// loose are the paths of the refs' own files.
func (d side) loose() []string { return d.s.List(d.path(namesDir)) }

// packed are the refs in the file of the packed ones.
func (d side) packed() ([]Ref, api.Errno) {
	b, e := d.s.Read(d.path(packedFile))
	if e != api.OK {
		return nil, api.OK
	}
	return ParsePacked(b)
}

// list are all refs, rising by names.
func (d side) list() ([]Ref, api.Errno) {
	known := map[string]api.Id{}
	l, e := d.packed()
	if e != api.OK {
		return nil, e
	}
	for _, r := range l {
		known[r.Name] = r.Id
	}
	for _, path := range d.loose() {
		name := strings.TrimPrefix(path, d.path(""))
		b, _ := d.s.Read(path)
		id, e := parseId(b)
		if e != api.OK || !Right(name) {
			return nil, api.ErrForm
		}
		known[name] = id
	}
	var all []Ref
	for name, id := range known {
		all = append(all, Ref{name, id})
	}
	slices.SortFunc(all, func(a, b Ref) int { return strings.Compare(a.Name, b.Name) })
	return all, api.OK
}

// beside are all refs, if name is one's name.
func (d side) beside(name string) ([]Ref, api.Errno) {
	if !Right(name) {
		return nil, api.ErrArg
	}
	return d.list()
}

// layPacked lays packed refs down.
func (d side) layPacked(l []Ref) api.Errno {
	b, e := PrintPacked(l)
	if e != api.OK {
		return e
	}
	return d.lay(packedFile, b)
}

// dropPacked lays the packed refs down without name, if they have it.
func (d side) dropPacked(name string) api.Errno {
	l, e := d.packed()
	if e != api.OK {
		return e
	}
	i := find(l, name)
	if i < 0 {
		return api.OK
	}
	return d.layPacked(slices.Delete(l, i, i+1))
}
