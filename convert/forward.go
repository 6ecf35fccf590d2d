package convert

import (
	"bytes"
	"slices"
	"strings"

	"tramway/api"
	"tramway/commit"
	"tramway/halt"
	"tramway/object"
	"tramway/odb"
	"tramway/refs"
	"tramway/trans"
	"tramway/vault"
	"tramway/walk"
)

// thing is an object.
type thing struct {
	kind int
	body []byte
}

// forward is a conversion of a git side.
type forward struct {
	trip
	refs    []refs.Ref
	history map[api.Id]commit.Commit
	things  map[api.Id]thing // trees and blobs that were got: many commits have the same
}

func (f *forward) goOn() {
	f.load()
	f.heads()
	f.gather()
	for _, id := range f.order() {
		if _, marked := f.changes[id]; !marked {
			f.convert(id)
		}
	}
	f.setMarks()
}

// heads takes the refs.
func (f *forward) heads() {
	var e api.Errno
	f.refs, e = refs.List(f.s, f.git)
	halt.On(e)
	for _, r := range f.refs {
		halt.Unless(strings.HasPrefix(r.Name, headsDir), api.ErrArg)
	}
}

// gather takes all commits that refs come to.
func (f *forward) gather() {
	f.history, f.things = map[api.Id]commit.Commit{}, map[api.Id]thing{}
	var open []api.Id // the next one stands last
	for _, r := range slices.Backward(f.refs) {
		open = append(open, r.Id)
	}
	for len(open) > 0 {
		id := open[len(open)-1]
		open = open[:len(open)-1]
		if _, met := f.history[id]; met {
			continue
		}
		c := f.commit(id)
		f.history[id] = c
		halt.Unless(len(f.history) <= api.MaxItems, api.ErrLong)
		for _, p := range slices.Backward(c.Parents) {
			open = append(open, p)
		}
	}
}

func (f *forward) commit(id api.Id) commit.Commit {
	kind, body, e := odb.Get(f.s, f.git, id)
	halt.On(e)
	halt.Unless(kind == object.Commit, api.ErrForm)
	c, e := commit.Parse(body)
	halt.On(e)
	halt.Unless(len(c.Parents) <= 2, api.ErrArg)
	return c
}

// order is that in which commits are converted, each one behind its parents.
func (f *forward) order() []api.Id {
	var ids []api.Id
	for id := range f.history {
		ids = append(ids, id)
	}
	slices.SortFunc(ids, func(a, b api.Id) int { return bytes.Compare(a[:], b[:]) })
	numbers := map[api.Id]int{}
	for i, id := range ids {
		numbers[id] = i
	}
	parents := make([][]int, len(ids))
	for i, id := range ids {
		for _, p := range f.history[id].Parents {
			parents[i] = append(parents[i], numbers[p])
		}
	}
	order, e := walk.Order(parents)
	halt.On(e)
	l := make([]api.Id, len(order))
	for i, n := range order {
		l[i] = ids[n]
	}
	return l
}

// convert lets a commit become a change.
func (f *forward) convert(id api.Id) {
	c := f.history[id]
	l := f.flat(c.Tree)
	x, e := trans.Change(c)
	halt.On(e)
	var parents [2]api.Id
	for i, p := range c.Parents {
		parents[i] = f.changes[p]
	}
	node, e := vault.Commit(f.s, f.hg, parents[0], parents[1], x, l)
	halt.On(e)
	f.mark(id, node)
}

// setMarks lets the bookmarks be as the refs.
func (f *forward) setMarks() {
	var want []vault.Mark
	for _, r := range f.refs {
		want = append(want, vault.Mark{Name: strings.TrimPrefix(r.Name, headsDir), Node: f.changes[r.Id]})
	}
	if have, e := vault.Marks(f.s, f.hg); e == api.OK && slices.Equal(have, want) {
		return
	}
	halt.On(vault.SetMarks(f.s, f.hg, want))
}
