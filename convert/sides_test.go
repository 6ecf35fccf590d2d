package convert_test

import (
	"fmt"
	"math/rand"
	"slices"
	"strings"
	"testing"

	"tramway/api"
	"tramway/change"
	"tramway/commit"
	"tramway/convert"
	"tramway/files"
	"tramway/object"
	"tramway/odb"
	"tramway/refs"
	"tramway/sha"
	"tramway/tree"
	"tramway/vault"
)

const room = 1 << 26

var none = api.Id{}

// state is all that stands under a front, or in all.
func state(s *files.Store, front string) map[string]string {
	m := map[string]string{}
	for _, p := range s.List(front) {
		b, _ := s.Read(p)
		m[p] = string(b)
	}
	return m
}

// copied is a store of other room with the same files.
func copied(s *files.Store, quota int) *files.Store {
	c := files.New(quota)
	for _, p := range s.List("") {
		b, _ := s.Read(p)
		c.Write(p, 0, b)
		c.Sync(p)
	}
	return c
}

// lie writes a file as it is.
func lie(s *files.Store, path, b string) {
	s.Remove(path)
	s.Write(path, 0, []byte(b))
	s.Sync(path)
}

func is(t *testing.T, what string, got, want api.Errno) {
	t.Helper()
	if got != want {
		t.Fatalf("%s: %d, want %d", what, got, want)
	}
}

func put(s *files.Store, front string, kind int, body []byte) api.Id {
	id, e := odb.Put(s, front, kind, body)
	if e != api.OK {
		panic(fmt.Sprint("Put: ", e))
	}
	return id
}

func blob(s *files.Store, front, text string) api.Id {
	return put(s, front, object.Blob, []byte(text))
}

func treeOf(s *files.Store, front string, l ...tree.Entry) api.Id {
	body, e := tree.Print(tree.Sort(l))
	if e != api.OK {
		panic(fmt.Sprint("tree: ", e))
	}
	return put(s, front, object.Tree, body)
}

func entry(mode int, name string, id api.Id) tree.Entry {
	return tree.Entry{Mode: mode, Name: name, Id: id}
}

var ann = commit.Who{Name: "Ann", Mail: "ann@a", Time: 5, Zone: "+0100"}

func commitOf(s *files.Store, front string, c commit.Commit) api.Id {
	if c.Author == (commit.Who{}) {
		c.Author, c.Committer = ann, ann
	}
	body, e := commit.Print(c)
	if e != api.OK {
		panic(fmt.Sprint("commit: ", e))
	}
	return put(s, front, object.Commit, body)
}

func setRef(s *files.Store, front, name string, id api.Id) {
	if e := refs.Set(s, front, name, id); e != api.OK {
		panic(fmt.Sprint("ref: ", e))
	}
}

// anyTree is a tree of random files, some like those of others.
func anyTree(r *rand.Rand, s *files.Store, front string, deep int) api.Id {
	var l []tree.Entry
	used := map[string]bool{}
	for range r.Intn(5) + 1 {
		name := []string{"a", "a.c", "A", "b_", "aux", ".x", "dir", "dir.i", "e f", "é", "data.hg"}[r.Intn(11)]
		if used[name] {
			continue
		}
		used[name] = true
		if deep > 0 && r.Intn(3) == 0 {
			l = append(l, entry(0o40000, name, anyTree(r, s, front, deep-1)))
			continue
		}
		text := []string{"", "x", "\x01\nmarked", strings.Repeat("line\n", 30), fmt.Sprint(r.Intn(1000))}[r.Intn(5)]
		l = append(l, entry([]int{0o100644, 0o100755, 0o120000}[r.Intn(3)], name, blob(s, front, text)))
	}
	return treeOf(s, front, l...)
}

// anyCommit is one on top of some of those that there are.
func anyCommit(r *rand.Rand, s *files.Store, front string, there []api.Id, i int) api.Id {
	c := commit.Commit{Author: ann, Committer: ann, Message: fmt.Sprintf("commit %d\n\n", i)}
	c.Author.Time += i
	for range r.Intn(3) {
		if len(there) > 0 {
			c.Parents = append(c.Parents, there[len(there)-1-r.Intn(min(4, len(there)))])
		}
	}
	switch r.Intn(5) {
	case 0:
		c.Extras = []commit.Extra{{Key: "gpgsig", Value: "-----\n\nsig\n"}, {Key: "encoding", Value: "latin"}}
	case 1:
		c.Extras = []commit.Extra{{Key: "hg", Value: "u\n7 0\nbranch x\n"}}
	case 2:
		c.Extras = []commit.Extra{{Key: "hg", Value: "no words"}}
	}
	c.Tree = treeOf(s, front)
	if r.Intn(6) > 0 {
		c.Tree = anyTree(r, s, front, 3)
	}
	return commitOf(s, front, c)
}

// grow lets a git side have more commits, and other refs.
func grow(r *rand.Rand, s *files.Store, front string, there []api.Id, n int) []api.Id {
	for range n {
		there = append(there, anyCommit(r, s, front, there, len(there)))
	}
	for _, name := range []string{"main", "side/x", "side/y", "old", "é"} {
		name = "refs/heads/" + name
		switch r.Intn(3) {
		case 0:
			refs.Drop(s, front, name)
		case 1:
			setRef(s, front, name, there[r.Intn(len(there))])
		}
	}
	setRef(s, front, "refs/heads/last", there[len(there)-1])
	if r.Intn(2) == 0 {
		refs.Pack(s, front)
	}
	if r.Intn(3) == 0 {
		odb.Pack(s, front)
	}
	return there
}

// gitSide is a random one.
func gitSide(seed int64, n int) *files.Store {
	s := files.New(room)
	grow(rand.New(rand.NewSource(seed)), s, "git", nil, n)
	return s
}

// reached are the bodies of all objects that refs come to.
func reached(t *testing.T, s *files.Store, front string) map[api.Id]string {
	t.Helper()
	m := map[api.Id]string{}
	var come func(id api.Id)
	come = func(id api.Id) {
		if _, ok := m[id]; ok {
			return
		}
		kind, body, e := odb.Get(s, front, id)
		is(t, "Get of "+sha.Hex(id), e, api.OK)
		m[id] = object.Word(kind) + string(body)
		switch kind {
		case object.Commit:
			c, _ := commit.Parse(body)
			come(c.Tree)
			for _, p := range c.Parents {
				come(p)
			}
		case object.Tree:
			l, _ := tree.Parse(body)
			for _, x := range l {
				come(x.Id)
			}
		}
	}
	l, e := refs.List(s, front)
	is(t, "List", e, api.OK)
	for _, r := range l {
		come(r.Id)
	}
	return m
}

// anyChange is one with words of all kinds.
func anyChange(r *rand.Rand, i int) change.Change {
	c := change.Change{User: fmt.Sprintf("user %d", r.Intn(3)), Time: r.Intn(1000), Zone: r.Intn(7200) - 3600, Desc: fmt.Sprintf("change %d\n", i)}
	switch r.Intn(5) {
	case 0:
		c.Extras = []change.Extra{{Key: "branch", Value: "x\n\ny"}, {Key: "close", Value: "1"}}
	case 1:
		c.Extras = []change.Extra{{Key: "git", Value: "no body"}}
	case 2:
		body, _ := commit.Print(commit.Commit{Author: ann, Committer: ann})
		c.User, c.Time, c.Zone = "Ann <ann@a>", 5, 0
		c.Extras = []change.Extra{{Key: "git", Value: string(body)}}
	}
	return c
}

// hgSide is a random one, with its bookmarks.
func hgSide(t *testing.T, seed int64, n int) *files.Store {
	s, r := files.New(room), rand.New(rand.NewSource(seed))
	growHg(t, r, s, nil, n)
	return s
}

func growHg(t *testing.T, r *rand.Rand, s *files.Store, nodes []api.Id, n int) []api.Id {
	t.Helper()
	for range n {
		var p, q api.Id
		if len(nodes) > 0 && r.Intn(5) > 0 {
			p = nodes[r.Intn(len(nodes))]
			if r.Intn(3) == 0 {
				q = nodes[r.Intn(len(nodes))]
			}
		}
		node, e := vault.Commit(s, "hg", p, q, anyChange(r, len(nodes)), anyFiles(r))
		is(t, "Commit", e, api.OK)
		nodes = append(nodes, node)
	}
	var l []vault.Mark
	for _, name := range []string{"@x", "a", "b/c", "b/d", "é"} {
		if r.Intn(2) == 0 {
			l = append(l, vault.Mark{Name: name, Node: nodes[r.Intn(len(nodes))]})
		}
	}
	is(t, "SetMarks", vault.SetMarks(s, "hg", append(l, vault.Mark{Name: "\xff", Node: nodes[len(nodes)-1]})), api.OK)
	return nodes
}

func anyFiles(r *rand.Rand) []vault.File {
	var l []vault.File
	for _, path := range []string{"A", "a-b", "a/b", "a/b.i/c", "a/d/e/f", "a/d/g", "a0", "b", "b.i/x", "com1"} {
		if r.Intn(2) == 0 {
			text := []string{"", "\x01\n", strings.Repeat("some text\n", 20), fmt.Sprint(r.Intn(1000))}[r.Intn(4)]
			l = append(l, vault.File{Path: path, Flag: []string{"", "x", "l"}[r.Intn(3)], Text: []byte(text)})
		}
	}
	slices.SortFunc(l, func(a, b vault.File) int { return strings.Compare(a.Path, b.Path) })
	return l
}

func forward(s *files.Store) api.Errno { return convert.Forward(s, "git", "hg", "map") }

func back(s *files.Store) api.Errno { return convert.Back(s, "git", "hg", "map") }
