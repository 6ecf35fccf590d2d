package vault_test

import (
	"math/rand"
	"reflect"
	"slices"
	"strings"
	"testing"

	"tramway/api"
	"tramway/change"
	"tramway/copies"
	"tramway/files"
	"tramway/manifest"
	"tramway/revlog"
	"tramway/vault"
)

const room = 1 << 24

type tree = []vault.File

var none = api.Id{}

func f(path, flag, text string) vault.File {
	return vault.File{Path: path, Flag: flag, Text: []byte(text)}
}

func c(desc string) change.Change {
	return change.Change{User: "u", Time: 5, Zone: -3600, Extras: []change.Extra{{Key: "branch", Value: "x"}}, Desc: desc}
}

func commit(t *testing.T, s *files.Store, p, q api.Id, desc string, l tree) api.Id {
	t.Helper()
	id, e := vault.Commit(s, "hg", p, q, c(desc), l)
	if e != api.OK {
		t.Fatalf("Commit of %s: %d", desc, e)
	}
	return id
}

// lie writes a file as it is.
func lie(s *files.Store, path string, b []byte) {
	s.Remove(path)
	s.Write(path, 0, b)
	s.Sync(path)
}

func state(s *files.Store) map[string]string {
	m := map[string]string{}
	for _, p := range s.List("") {
		b, _ := s.Read(p)
		m[p] = string(b)
	}
	return m
}

// log tells the texts, parents and links of a log.
func log(t *testing.T, s *files.Store, name string) ([]revlog.Rev, []api.Id) {
	t.Helper()
	b, e := s.Read("hg/store/" + name)
	revs, nodes, f := revlog.Read(b)
	if e != api.OK || f != api.OK {
		t.Fatalf("%s: %d %d", name, e, f)
	}
	return revs, nodes
}

func told(t *testing.T, s *files.Store, node api.Id, want tree) {
	t.Helper()
	l, e := vault.Tree(s, "hg", node)
	if e != api.OK || !same(l, want) {
		t.Fatalf("Tree: %v %d, want %v", l, e, want)
	}
}

func same(a, b tree) bool {
	return slices.EqualFunc(a, b, func(x, y vault.File) bool {
		return x.Path == y.Path && x.Flag == y.Flag && string(x.Text) == string(y.Text)
	})
}

// P21.2: example 1, with all that lies there.
func TestFirstCommit(t *testing.T) {
	s := files.New(room)
	id := commit(t, s, none, none, "d", tree{f("a", "", "x")})
	node := revlog.Node(none, none, []byte("x"))
	if revs, nodes := log(t, s, "data/a.i"); !reflect.DeepEqual(revs, []revlog.Rev{{P1: -1, P2: -1, Text: []byte("x")}}) || nodes[0] != node {
		t.Errorf("the filelog: %v", revs)
	}
	text, _ := manifest.Print([]manifest.File{{Path: "a", Node: node}})
	m := revlog.Node(none, none, text)
	if revs, nodes := log(t, s, "00manifest.i"); !reflect.DeepEqual(revs, []revlog.Rev{{P1: -1, P2: -1, Text: text}}) || nodes[0] != m {
		t.Errorf("the manifest: %v", revs)
	}
	want := c("d")
	want.Manifest, want.Files = m, []string{"a"}
	text, _ = change.Print(want)
	if revs, nodes := log(t, s, "00changelog.i"); !reflect.DeepEqual(revs, []revlog.Rev{{P1: -1, P2: -1, Text: text}}) || nodes[0] != id {
		t.Errorf("the changelog: %v", revs)
	}
	if l := s.List(""); len(l) != 3 {
		t.Errorf("%q", l)
	}
	v, e := vault.Load(s, "hg")
	if e != api.OK || !reflect.DeepEqual(v, vault.Vault{Nodes: []api.Id{id}, Parents: [][2]int{{-1, -1}}, Changes: []change.Change{want}}) {
		t.Errorf("Load: %v %d", v, e)
	}
	told(t, s, id, tree{f("a", "", "x")})
	if bare, e := vault.Commit(files.New(room), "", none, none, c("d"), tree{f("a", "", "x")}); bare != id || e != api.OK {
		t.Errorf("without a front: %d", e)
	}
}

// history is one of merges; its trees are kept by nodes.
func history(t *testing.T, s *files.Store) ([]api.Id, []tree) {
	trees := []tree{
		{f("a", "", "1"), f("b", "x", "b"), f("d/e", "l", "target")},
		{f("a", "", "2"), f("b", "", "b"), f("d/e", "l", "target")},
		{f("a", "", "3"), f("b", "x", "b"), f("c", "", "new"), f("d/f", "", "\x01\nmarked")},
		{f("a", "", "3"), f("b", "", "b"), f("c", "", "new"), f("d/e", "l", "target"), f("d/f", "", "\x01\nmarked")},
		nil,
		{f("B", "", ""), f("a", "", "1"), f("a.i/x", "", "y")},
		{f("a", "", "1")},
	}
	n0 := commit(t, s, none, none, "0", trees[0])
	n1 := commit(t, s, n0, none, "1", trees[1])
	n2 := commit(t, s, n0, none, "2", trees[2])
	n3 := commit(t, s, n1, n2, "3", trees[3])
	n4 := commit(t, s, n3, none, "4", trees[4])
	n5 := commit(t, s, n4, none, "5", trees[5])
	n6 := commit(t, s, n5, n0, "6", trees[6])
	return []api.Id{n0, n1, n2, n3, n4, n5, n6}, trees
}

// P21.1 to P21.3
func TestHistory(t *testing.T) {
	s := files.New(room)
	nodes, trees := history(t, s)
	v, e := vault.Load(s, "hg")
	if e != api.OK || !slices.Equal(v.Nodes, nodes) || !slices.Equal(v.Parents, [][2]int{{-1, -1}, {0, -1}, {0, -1}, {1, 2}, {3, -1}, {4, -1}, {5, 0}}) {
		t.Fatalf("Load: %v %d", v.Parents, e)
	}
	wantFiles := [][]string{{"a", "b", "d/e"}, {"a", "b"}, {"a", "c", "d/e", "d/f"}, {"a", "c", "d/f"}, {"a", "b", "c", "d/e", "d/f"}, {"B", "a", "a.i/x"}, {"B", "a.i/x"}}
	for i, x := range v.Changes {
		told(t, s, nodes[i], trees[i])
		if !slices.Equal(x.Files, wantFiles[i]) || x.Desc != string(rune('0'+i)) || x.User != "u" {
			t.Errorf("change %d: %v", i, x)
		}
	}
	_, manifests := log(t, s, "00manifest.i")
	for i, x := range v.Changes {
		if revlog.Find(manifests, x.Manifest) != i {
			t.Errorf("the manifest of change %d", i)
		}
	}
}

// P21.2: parents and links of the files' revisions.
func TestFileNodes(t *testing.T) {
	s := files.New(room)
	history(t, s)
	for name, want := range map[string][]revlog.Rev{
		"data/a.i":        {{P1: -1, P2: -1, Text: []byte("1")}, {P1: 0, P2: -1, Link: 1, Text: []byte("2")}, {P1: 0, P2: -1, Link: 2, Text: []byte("3")}, {P1: 1, P2: 2, Link: 3, Text: []byte("3")}},
		"data/b.i":        {{P1: -1, P2: -1, Text: []byte("b")}},
		"data/c.i":        {{P1: -1, P2: -1, Link: 2, Text: []byte("new")}},
		"data/d/f.i":      {{P1: -1, P2: -1, Link: 2, Text: []byte("\x01\n\x01\n\x01\nmarked")}},
		"data/_b.i":       {{P1: -1, P2: -1, Link: 5}},
		"data/a.i.hg/x.i": {{P1: -1, P2: -1, Link: 5, Text: []byte("y")}},
	} {
		revs, _ := log(t, s, name)
		if !slices.EqualFunc(revs, want, func(x, y revlog.Rev) bool {
			return x.P1 == y.P1 && x.P2 == y.P2 && x.Link == y.Link && string(x.Text) == string(y.Text)
		}) {
			t.Errorf("%s: %v, want %v", name, revs, want)
		}
	}
	revs, _ := log(t, s, "00manifest.i")
	for i, want := range [][3]int{{-1, -1, 0}, {0, -1, 1}, {0, -1, 2}, {1, 2, 3}, {3, -1, 4}, {4, -1, 5}, {5, 0, 6}} {
		if got := [3]int{revs[i].P1, revs[i].P2, revs[i].Link}; got != want {
			t.Errorf("manifest %d: %v, want %v", i, got, want)
		}
	}
}

// P21.2: the file of the second parent alone; parents that have the same one; the same parent twice.
func TestFileNodesOfMerges(t *testing.T) {
	s := files.New(room)
	n0 := commit(t, s, none, none, "0", tree{f("a", "", "1"), f("b", "", "1")})
	n1 := commit(t, s, n0, none, "1", tree{f("b", "", "1")})
	n2 := commit(t, s, n0, none, "2", tree{f("a", "", "1"), f("b", "", "2")})
	commit(t, s, n1, n0, "the second's, as it is", tree{f("a", "", "1"), f("b", "", "1")})
	commit(t, s, n1, n2, "the second's, changed", tree{f("a", "", "changed"), f("b", "", "1")})
	commit(t, s, n2, n0, "the first's, as it is", tree{f("b", "", "2")})
	commit(t, s, n0, n0, "the same twice", tree{f("a", "", "1"), f("b", "", "twice")})
	revs, _ := log(t, s, "data/a.i")
	if len(revs) != 2 || revs[1].P1 != 0 || revs[1].P2 != -1 || revs[1].Link != 4 {
		t.Errorf("a: %v", revs)
	}
	revs, _ = log(t, s, "data/b.i")
	if len(revs) != 5 || revs[2].P1 != 0 || revs[2].P2 != 1 || revs[3].P1 != 1 || revs[3].P2 != 0 || revs[4].P1 != 0 || revs[4].P2 != -1 {
		t.Errorf("b: %v", revs)
	}
	revs, _ = log(t, s, "00manifest.i")
	if last := revs[len(revs)-1]; last.P1 != 0 || last.P2 != 0 {
		t.Errorf("the manifest's parents: %v", last)
	}
}

// P21.5: the same call again tells the same node, and changes nothing.
func TestCommitAgain(t *testing.T) {
	s := files.New(room)
	nodes, trees := history(t, s)
	s.Arm(0)
	for i, p := range [][2]int{{-1, -1}, {0, -1}, {0, -1}, {1, 2}, {3, -1}, {4, -1}, {5, 0}} {
		at := func(i int) api.Id {
			if i < 0 {
				return none
			}
			return nodes[i]
		}
		given := c(string(rune('0' + i)))
		given.Manifest, given.Files = api.Id{9}, []string{"what is given", "here doesn't count"}
		if id, e := vault.Commit(s, "hg", at(p[0]), at(p[1]), given, trees[i]); id != nodes[i] || e != api.OK {
			t.Errorf("%d again: %d", i, e)
		}
	}
}

// P21.2
func TestErrorsOfCommit(t *testing.T) {
	s := files.New(room)
	nodes, _ := history(t, s)
	was := state(s)
	good, other := tree{f("a", "", "x")}, api.Id{1}
	wrong := change.Change{Desc: "no user"}
	long := strings.Repeat("p", 250)
	for name, x := range map[string]struct {
		p, q api.Id
		c    change.Change
		l    tree
		e    api.Errno
	}{
		"p isn't there":              {other, none, c("d"), good, api.ErrNone},
		"q isn't there":              {nodes[0], other, c("d"), good, api.ErrNone},
		"p isn't there, and wrong":   {other, none, wrong, tree{f("", "", "")}, api.ErrNone},
		"q alone isn't there":        {none, other, c("d"), good, api.ErrNone},
		"q alone":                    {none, nodes[0], c("d"), good, api.ErrForm},
		"a wrong change":             {none, none, wrong, good, api.ErrForm},
		"a wrong path":               {none, none, c("d"), tree{f("a/", "", "")}, api.ErrForm},
		"a wrong flag":               {none, none, c("d"), tree{f("a", "y", "")}, api.ErrForm},
		"files that fall":            {none, none, c("d"), tree{f("b", "", ""), f("a", "", "")}, api.ErrForm},
		"a file twice":               {none, none, c("d"), tree{f("a", "", ""), f("a", "", "")}, api.ErrForm},
		"a file that is a directory": {none, none, c("d"), tree{f("a", "", ""), f("a/b", "", "")}, api.ErrForm},
		"a name too long":            {none, none, c("d"), tree{f(long, "", "")}, api.ErrLong},
		"a text too long":            {none, none, c("d"), tree{f("big", "", strings.Repeat("\x00", api.MaxBody+1))}, api.ErrLong},
	} {
		if id, e := vault.Commit(s, "hg", x.p, x.q, x.c, x.l); id != none || e != x.e {
			t.Errorf("%s: %d, want %d", name, e, x.e)
		}
	}
	if now := state(s); !reflect.DeepEqual(now, was) {
		t.Error("files were changed")
	}
	if id, e := vault.Commit(nil, "", none, none, c("d"), good); id != none || e != api.ErrState {
		t.Errorf("no store: %d", e)
	}
	if id, e := vault.Commit(s, strings.Repeat("f", 200), none, none, c("d"), tree{f(strings.Repeat("p", 100), "", "")}); id != none || e != api.ErrArg {
		t.Errorf("a path of the store too long: %d", e)
	}
}

// P21.1 to P21.3: broken logs.
func TestBrokenLogs(t *testing.T) {
	textLog := func(texts ...string) []byte {
		var b []byte
		for i, x := range texts {
			b, _, _ = revlog.Add(b, revlog.Rev{P1: i - 1, P2: -1, Text: []byte(x)})
		}
		return b
	}
	fill := func() (*files.Store, []api.Id) {
		s := files.New(room)
		nodes, _ := history(t, s)
		return s, nodes
	}
	changed := func(path string, change func(b []byte) []byte) (*files.Store, []api.Id) {
		s, nodes := fill()
		b, _ := s.Read("hg/store/" + path)
		lie(s, "hg/store/"+path, change(b))
		return s, nodes
	}
	half := func(b []byte) []byte { return b[:40] }
	none2 := func(b []byte) []byte { return nil }
	all := tree{f("a", "", "7"), f("b", "x", "b"), f("d/e", "l", "target")}
	for name, x := range map[string]struct {
		path             string
		change           func(b []byte) []byte
		load, tree, comm api.Errno
	}{
		"a changelog that ends":           {"00changelog.i", half, api.ErrEnd, api.ErrEnd, api.ErrEnd},
		"a changelog of no changes":       {"00changelog.i", func([]byte) []byte { return textLog("no change") }, api.ErrForm, api.ErrForm, api.ErrForm},
		"no changelog":                    {"00changelog.i", none2, api.OK, api.ErrNone, api.ErrNone},
		"a manifest log that ends":        {"00manifest.i", half, api.OK, api.ErrEnd, api.ErrEnd},
		"no manifest log":                 {"00manifest.i", none2, api.OK, api.ErrNone, api.ErrNone},
		"a filelog that ends":             {"data/a.i", half, api.OK, api.ErrEnd, api.ErrEnd},
		"no filelog":                      {"data/a.i", none2, api.OK, api.ErrNone, api.ErrNone},
		"another filelog":                 {"data/d/e.i", func([]byte) []byte { return textLog("x", "y") }, api.OK, api.ErrNone, api.ErrNone},
		"a log that the tree doesn't ask": {"data/c.i", half, api.OK, api.OK, api.OK},
	} {
		s, nodes := changed(x.path, x.change)
		if v, e := vault.Load(s, "hg"); e != x.load || e != api.OK && !reflect.DeepEqual(v, vault.Vault{}) {
			t.Errorf("%s, Load: %d, want %d", name, e, x.load)
		}
		if l, e := vault.Tree(s, "hg", nodes[0]); e != x.tree || e != api.OK && l != nil {
			t.Errorf("%s, Tree: %d, want %d", name, e, x.tree)
		}
		if id, e := vault.Commit(s, "hg", nodes[0], none, c("more"), all); e != x.comm || e != api.OK && id != none {
			t.Errorf("%s, Commit: %d, want %d", name, e, x.comm)
		}
	}
}

// by writes a vault by hand: its one change has that manifest, and that is there, if it is told.
func by(manifestText string, there bool, file string) (*files.Store, api.Id) {
	s := files.New(room)
	m := revlog.Node(none, none, []byte(manifestText))
	text, _ := change.Print(change.Change{User: "u", Manifest: m})
	b, id, _ := revlog.Add(nil, revlog.Rev{P1: -1, P2: -1, Text: text})
	lie(s, "hg/store/00changelog.i", b)
	if there {
		b, _, _ = revlog.Add(nil, revlog.Rev{P1: -1, P2: -1, Text: []byte(manifestText)})
		lie(s, "hg/store/00manifest.i", b)
	}
	b, _, _ = revlog.Add(nil, revlog.Rev{P1: -1, P2: -1, Text: []byte(file)})
	lie(s, "hg/store/data/a.i", b)
	return s, id
}

// P21.2, P21.3
func TestManifestsByHand(t *testing.T) {
	text := func(path, file string) string {
		b, _ := manifest.Print([]manifest.File{{Path: path, Node: revlog.Node(none, none, []byte(file))}})
		return string(b)
	}
	long := strings.Repeat("p", 250)
	for name, x := range map[string]struct {
		manifest   string
		there      bool
		file       string
		tree, comm api.Errno
	}{
		"a manifest that isn't there": {text("a", "x"), false, "x", api.ErrNone, api.ErrNone},
		"no manifest":                 {"no manifest", true, "x", api.ErrForm, api.ErrForm},
		"a text that is no copy":      {text("a", "\x01\nx"), true, "\x01\nx", api.ErrForm, api.OK},
		"a path too long":             {text(long, "x"), true, "x", api.ErrLong, api.OK},
		"a node that isn't there":     {text("a", "y"), true, "x", api.ErrNone, api.ErrNone},
		"as it should be":             {text("a", "x"), true, "x", api.OK, api.OK},
	} {
		s, id := by(x.manifest, x.there, x.file)
		if l, e := vault.Tree(s, "hg", id); e != x.tree || e != api.OK && l != nil {
			t.Errorf("%s, Tree: %d, want %d", name, e, x.tree)
		}
		if id, e := vault.Commit(s, "hg", id, none, c("more"), tree{f("a", "", "z")}); e != x.comm || e != api.OK && id != none {
			t.Errorf("%s, Commit: %d, want %d", name, e, x.comm)
		}
	}
	copied, _ := copies.Print([]byte("x"), copies.From{Path: "b", Node: api.Id{3}})
	s, id := by(text("a", string(copied)), true, string(copied))
	told(t, s, id, tree{f("a", "", "x")})
	if l, e := vault.Tree(s, "hg", none); l != nil || e != api.ErrNone {
		t.Errorf("the tree of no node: %d", e)
	}
}

// P21.4
func TestMarks(t *testing.T) {
	s := files.New(room)
	if l, e := vault.Marks(s, "hg"); len(l) != 0 || e != api.OK {
		t.Errorf("no file: %v %d", l, e)
	}
	l := []vault.Mark{{Name: "@", Node: api.Id{2}}, {Name: "a/b", Node: api.Id{1}}, {Name: strings.Repeat("m", 200), Node: api.Id{}}, {Name: "\x7f\xff", Node: api.Id{1}}}
	if e := vault.SetMarks(s, "hg", l); e != api.OK {
		t.Fatal(e)
	}
	z := strings.Repeat("0", 38)
	want := "02" + z + " @\n01" + z + " a/b\n00" + z + " " + strings.Repeat("m", 200) + "\n01" + z + " \x7f\xff\n"
	if b, _ := s.Read("hg/bookmarks"); string(b) != want {
		t.Errorf("%q", b)
	}
	if got, e := vault.Marks(s, "hg"); !slices.Equal(got, l) || e != api.OK {
		t.Errorf("%v %d", got, e)
	}
	for _, l := range [][]vault.Mark{{{Name: ""}}, {{Name: "a b"}}, {{Name: "a\n"}}, {{Name: "\x1f"}}, {{Name: strings.Repeat("m", 201)}}, {{Name: "b"}, {Name: "a"}}, {{Name: "a"}, {Name: "a"}}} {
		if e := vault.SetMarks(s, "hg", l); e != api.ErrForm {
			t.Errorf("%q: %d", l, e)
		}
	}
	if got, _ := vault.Marks(s, "hg"); !slices.Equal(got, l) {
		t.Error("they were changed")
	}
	a := "02" + z + " a\n"
	for _, text := range []string{"x", "\n", a[:len(a)-1], a + "\n", a + a, "02" + z + " b\n" + a, "02" + z + "  a\n", "02" + z + " \n", "02" + z + "\n", "0" + a, "A" + a[1:], "02" + z + " a b\n", "02" + z + " a\t\n"} {
		lie(s, "hg/bookmarks", []byte(text))
		if got, e := vault.Marks(s, "hg"); got != nil || e != api.ErrForm {
			t.Errorf("%q: %v %d", text, got, e)
		}
	}
	if e := vault.SetMarks(s, "hg", nil); e != api.OK {
		t.Error(e)
	}
	if got, e := vault.Marks(s, "hg"); len(got) != 0 || e != api.OK {
		t.Errorf("none: %v %d", got, e)
	}
	if e := vault.SetMarks(files.New(3), "", l); e != api.ErrFull {
		t.Errorf("no room: %d", e)
	}
}

// P21.5: whenever the power goes, each node of the changelog is told as before; the call again makes it whole.
func TestCommitInterrupted(t *testing.T) {
	fill := func() (*files.Store, []api.Id) {
		s := files.New(room)
		n0 := commit(t, s, none, none, "0", tree{f("a", "", "1"), f("b", "", "1")})
		return s, []api.Id{n0, commit(t, s, n0, none, "1", tree{f("a", "", "2")})}
	}
	next := tree{f("a", "", "3"), f("b", "", "3"), f("c", "", "3")}
	whole, nodes := fill()
	id := commit(t, whole, nodes[1], nodes[0], "2", next)
	r := rand.New(rand.NewSource(1))
	for n := 0; ; n++ {
		s, nodes := fill()
		s.Arm(n)
		got, e := vault.Commit(s, "hg", nodes[1], nodes[0], c("2"), next)
		s.Crash(r.Intn(3), r.Intn(3), r.Intn(3), r.Intn(3), r.Intn(3), r.Intn(3))
		v, f2 := vault.Load(s, "hg")
		if f2 != api.OK || !slices.Equal(v.Nodes[:2], nodes) || (len(v.Nodes) == 3) != (e == api.OK) {
			t.Fatalf("%d changes: %d %d", n, e, f2)
		}
		told(t, s, nodes[0], tree{f("a", "", "1"), f("b", "", "1")})
		told(t, s, nodes[1], tree{f("a", "", "2")})
		if again := commit(t, s, nodes[1], nodes[0], "2", next); again != id || e == api.OK && got != id {
			t.Fatal("another node")
		}
		told(t, s, id, next)
		if !reflect.DeepEqual(state(s), state(whole)) {
			t.Fatalf("%d changes: other files than without an interruption", n)
		}
		if e == api.OK {
			if n != 5*4 {
				t.Errorf("%d changes", n)
			}
			return
		}
	}
}

// P21.5: no room is told, and nothing is lost.
func TestNoRoom(t *testing.T) {
	for quota := 0; ; quota += 40 {
		s := files.New(quota)
		id, e := vault.Commit(s, "hg", none, none, c("0"), tree{f("a", "", "1"), f("b", "", "2")})
		if e == api.OK {
			told(t, s, id, tree{f("a", "", "1"), f("b", "", "2")})
			return
		}
		if v, f2 := vault.Load(s, "hg"); e != api.ErrFull || f2 != api.OK || len(v.Nodes) != 0 {
			t.Fatalf("%d bytes: %d %d", quota, e, f2)
		}
	}
}

// The arguments aren't changed, and nothing is shared.
func TestMemory(t *testing.T) {
	s := files.New(room)
	given := c("d")
	given.Files = []string{"q"}
	l := tree{f("a", "", "x")}
	id, _ := vault.Commit(s, "hg", none, none, given, l)
	l[0].Text[0] = 'y'
	told(t, s, id, tree{f("a", "", "x")})
	got, _ := vault.Tree(s, "hg", id)
	got[0].Text[0] = 'z'
	told(t, s, id, tree{f("a", "", "x")})
	if !slices.Equal(given.Files, []string{"q"}) {
		t.Error("the change was changed")
	}
}
