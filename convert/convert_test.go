package convert_test

import (
	"reflect"
	"strconv"
	"strings"
	"testing"

	"tramway/api"
	"tramway/change"
	"tramway/commit"
	"tramway/convert"
	"tramway/files"
	"tramway/manifest"
	"tramway/marks"
	"tramway/object"
	"tramway/odb"
	"tramway/pack"
	"tramway/refs"
	"tramway/revlog"
	"tramway/sha"
	"tramway/trans"
	"tramway/tree"
	"tramway/vault"
)

// one is a git side of one commit, with the branch main.
func one() (*files.Store, api.Id) {
	s := files.New(room)
	in := treeOf(s, "git", entry(0o100755, "run", blob(s, "git", "#!")), entry(0o120000, "z", blob(s, "git", "run")))
	root := treeOf(s, "git", entry(0o100644, "a.c", blob(s, "git", "c")), entry(0o40000, "a", in), entry(0o100644, "B", blob(s, "git", "")))
	id := commitOf(s, "git", commit.Commit{Tree: root, Message: "m\n"})
	setRef(s, "git", "refs/heads/main", id)
	return s, id
}

// P25.1, and the examples 3 and 4 of the whole.
func TestOneCommit(t *testing.T) {
	s, id := one()
	was := state(s, "git/")
	is(t, "Forward", forward(s), api.OK)
	v, e := vault.Load(s, "hg")
	if e != api.OK || len(v.Nodes) != 1 || v.Parents[0] != [2]int{-1, -1} {
		t.Fatalf("Load: %v %d", v, e)
	}
	_, body, _ := odb.Get(s, "git", id)
	c, _ := commit.Parse(body)
	want, _ := trans.Change(c)
	want.Manifest, want.Files = v.Changes[0].Manifest, []string{"B", "a.c", "a/run", "a/z"}
	if !reflect.DeepEqual(v.Changes[0], want) {
		t.Errorf("%v", v.Changes[0])
	}
	l, _ := vault.Tree(s, "hg", v.Nodes[0])
	if !reflect.DeepEqual(l, []vault.File{{Path: "B"}, {Path: "a.c", Text: []byte("c")}, {Path: "a/run", Flag: "x", Text: []byte("#!")}, {Path: "a/z", Flag: "l", Text: []byte("run")}}) {
		t.Errorf("%v", l)
	}
	if m, e := vault.Marks(s, "hg"); e != api.OK || !reflect.DeepEqual(m, []vault.Mark{{Name: "main", Node: v.Nodes[0]}}) {
		t.Errorf("%v %d", m, e)
	}
	if p, e := marks.Load(s, "map"); e != api.OK || !reflect.DeepEqual(p, []marks.Pair{{Git: id, Hg: v.Nodes[0]}}) {
		t.Errorf("%v %d", p, e)
	}
	if !reflect.DeepEqual(state(s, "git/"), was) {
		t.Error("the source was written to")
	}
	is(t, "Back", convert.Back(s, "new", "hg", "map2"), api.OK)
	if got, e := refs.Get(s, "new", "refs/heads/main"); got != id || e != api.OK {
		t.Errorf("%x %d", got, e)
	}
	if now := state(s, "new/"); len(now) != len(was) {
		t.Errorf("%d files instead of %d", len(now), len(was))
	}
}

// P25.1: fronts may be nothing, and both sides under one.
func TestWithoutFronts(t *testing.T) {
	s, id := one()
	bare := files.New(room)
	for p, b := range state(s, "git/") {
		lie(bare, strings.TrimPrefix(p, "git/"), b)
	}
	is(t, "Forward", convert.Forward(bare, "", "", "m"), api.OK)
	is(t, "Back", convert.Back(bare, "x/y", "", "n"), api.OK)
	if got, e := refs.Get(bare, "x/y", "refs/heads/main"); got != id || e != api.OK {
		t.Errorf("%x %d", got, e)
	}
}

// P25.1: nothing to convert; then all refs are dropped.
func TestNoRefs(t *testing.T) {
	s := files.New(room)
	s.Arm(0)
	is(t, "Forward of nothing", forward(s), api.OK)
	is(t, "Back of nothing", back(s), api.OK)
	s, _ = one()
	is(t, "Forward", forward(s), api.OK)
	is(t, "Drop", refs.Drop(s, "git", "refs/heads/main"), api.OK)
	is(t, "Forward", forward(s), api.OK)
	if m, e := vault.Marks(s, "hg"); len(m) != 0 || e != api.OK {
		t.Errorf("%v %d", m, e)
	}
	if v, _ := vault.Load(s, "hg"); len(v.Nodes) != 1 {
		t.Error("what was converted stays")
	}
}

// chain puts commits, each on top of the one ahead, and lets main be the last one.
func chain(s *files.Store, l ...commit.Commit) []api.Id {
	var ids []api.Id
	for _, c := range l {
		if len(ids) > 0 && c.Parents == nil {
			c.Parents = ids[len(ids)-1:]
		}
		ids = append(ids, commitOf(s, "git", c))
	}
	setRef(s, "git", "refs/heads/main", ids[len(ids)-1])
	return ids
}

// P25.1, step 3: by numbers of ids, each one behind its parents.
func TestOrder(t *testing.T) {
	s := files.New(room)
	empty := treeOf(s, "git")
	var roots []api.Id
	for i := range 20 {
		roots = append(roots, commitOf(s, "git", commit.Commit{Tree: empty, Message: strconv.Itoa(i)}))
		setRef(s, "git", "refs/heads/"+strconv.Itoa(i), roots[i])
	}
	top := commitOf(s, "git", commit.Commit{Tree: empty, Parents: []api.Id{roots[3], roots[5]}})
	setRef(s, "git", "refs/heads/top", top)
	is(t, "Forward", forward(s), api.OK)
	p, _ := marks.Load(s, "map")
	told := map[api.Id]bool{}
	for i, x := range p {
		if i > 0 && p[i-1].Git[0] > x.Git[0] && x.Git != top && !(p[i-1].Git == top) {
			t.Errorf("%x ahead of %x", p[i-1].Git, x.Git)
		}
		if x.Git == top && (!told[roots[3]] || !told[roots[5]]) {
			t.Error("ahead of a parent")
		}
		told[x.Git] = true
	}
	v, _ := vault.Load(s, "hg")
	for i, x := range p {
		if v.Nodes[i] != x.Hg {
			t.Errorf("the change %d", i)
		}
	}
}

// P25.1 and T6: what can't be. The source is never written to; what was there on the other side stays.
func TestErrorsOfForward(t *testing.T) {
	cases := map[string]struct {
		change func(s *files.Store, id api.Id)
		e      api.Errno
	}{
		"marks of another form": {func(s *files.Store, id api.Id) { lie(s, "map", "x") }, api.ErrForm},
		"marks that clash":      {func(s *files.Store, id api.Id) { h := sha.Hex(id); lie(s, "map", h+" "+h+"\n"+h+" "+h+"\n") }, api.ErrClash},
		"marks, and refs":       {func(s *files.Store, id api.Id) { lie(s, "map", "x"); setRef(s, "git", "refs/tags/t", id) }, api.ErrForm},
		"a broken ref":          {func(s *files.Store, id api.Id) { lie(s, "git/refs/heads/x", "x") }, api.ErrForm},
		"a tag's ref":           {func(s *files.Store, id api.Id) { setRef(s, "git", "refs/tags/t", id) }, api.ErrArg},
		"another ref":           {func(s *files.Store, id api.Id) { setRef(s, "git", "refs/headsx", id) }, api.ErrArg},
		"another ref, of nothing": {func(s *files.Store, id api.Id) {
			setRef(s, "git", "refs/heads/a", api.Id{1})
			setRef(s, "git", "refs/z", id)
		}, api.ErrArg},
		"a ref that names nothing": {func(s *files.Store, id api.Id) { setRef(s, "git", "refs/heads/a", api.Id{1}) }, api.ErrNone},
		"a ref of a tree":          {func(s *files.Store, id api.Id) { setRef(s, "git", "refs/heads/a", treeOf(s, "git")) }, api.ErrForm},
		"a ref of a tag":           {func(s *files.Store, id api.Id) { setRef(s, "git", "refs/heads/a", tagOf(s, id)) }, api.ErrForm},
		"a wrong commit": {func(s *files.Store, id api.Id) {
			setRef(s, "git", "refs/heads/a", put(s, "git", object.Commit, []byte("x")))
		}, api.ErrForm},
		"a broken object":           {func(s *files.Store, id api.Id) { lie(s, "git/"+object.Path(id), "xx") }, api.ErrForm},
		"three parents":             {func(s *files.Store, id api.Id) { chain(s, commit.Commit{Parents: []api.Id{id, id, id}}) }, api.ErrArg},
		"three parents of nothing":  {func(s *files.Store, id api.Id) { chain(s, commit.Commit{Parents: []api.Id{{1}, {2}, {3}}}) }, api.ErrArg},
		"a parent that isn't there": {func(s *files.Store, id api.Id) { chain(s, commit.Commit{Parents: []api.Id{{1}}}) }, api.ErrNone},
		"a parent that is a tree":   {func(s *files.Store, id api.Id) { chain(s, commit.Commit{Parents: []api.Id{treeOf(s, "git")}}) }, api.ErrForm},
		"a tree that isn't there":   {func(s *files.Store, id api.Id) { withTree(s, api.Id{1}) }, api.ErrNone},
		"a tree that is a blob":     {func(s *files.Store, id api.Id) { withTree(s, blob(s, "git", "")) }, api.ErrForm},
		"a wrong tree":              {func(s *files.Store, id api.Id) { withTree(s, put(s, "git", object.Tree, []byte("x"))) }, api.ErrForm},
		"a blob that isn't there":   {func(s *files.Store, id api.Id) { withTree(s, treeOf(s, "git", entry(0o100644, "a", api.Id{1}))) }, api.ErrNone},
		"a blob that is a tree":     {func(s *files.Store, id api.Id) { withTree(s, treeOf(s, "git", entry(0o100644, "a", treeOf(s, "git")))) }, api.ErrForm},
		"a tree within of no kind": {func(s *files.Store, id api.Id) {
			withTree(s, treeOf(s, "git", entry(0o40000, "a", blob(s, "git", ""))))
		}, api.ErrForm},
		"a tree within, no entries": {func(s *files.Store, id api.Id) { withTree(s, treeOf(s, "git", entry(0o40000, "a", treeOf(s, "git")))) }, api.ErrForm},
		"a commit as an entry":      {func(s *files.Store, id api.Id) { withTree(s, treeOf(s, "git", entry(0o160000, "a", id))) }, api.ErrArg},
		"a path that is none": {func(s *files.Store, id api.Id) {
			withTree(s, treeOf(s, "git", entry(0o100644, "a\n", blob(s, "git", ""))))
		}, api.ErrArg},
		"a path that is too long":   {func(s *files.Store, id api.Id) { withTree(s, deep(s, 130)) }, api.ErrArg},
		"a path, and nothing there": {func(s *files.Store, id api.Id) { withTree(s, treeOf(s, "git", entry(0o100644, "a\n", api.Id{1}))) }, api.ErrNone},
		"a name too long": {func(s *files.Store, id api.Id) {
			withTree(s, treeOf(s, "git", entry(0o100644, strings.Repeat("A", 200), blob(s, "git", ""))))
		}, api.ErrLong},
		"parents in the other order": {swapped, api.ErrClash},
		"a broken changelog":         {func(s *files.Store, id api.Id) { lie(s, "hg/store/00changelog.i", "x"); withTree(s, treeOf(s, "git")) }, api.ErrEnd},
	}
	for name, c := range cases {
		t.Run(name, func(t *testing.T) {
			s, id := one()
			is(t, "Forward", forward(s), api.OK)
			v, _ := vault.Load(s, "hg")
			c.change(s, id)
			was := state(s, "git/")
			is(t, name, forward(s), c.e)
			is(t, name+", again", forward(s), c.e)
			if !reflect.DeepEqual(state(s, "git/"), was) {
				t.Error("the source was written to")
			}
			if now, e := vault.Load(s, "hg"); e == api.OK && (len(now.Nodes) < 1 || now.Nodes[0] != v.Nodes[0]) {
				t.Error("what was there is gone")
			}
		})
	}
}

func withTree(s *files.Store, id api.Id) { chain(s, commit.Commit{Tree: id, Message: "more"}) }

func tagOf(s *files.Store, id api.Id) api.Id {
	body, _ := commit.PrintTag(commit.Tag{Object: id, Kind: object.Commit, Name: "t", Tagger: ann})
	return put(s, "git", object.Tag, body)
}

// deep is a tree of so many within one another.
func deep(s *files.Store, n int) api.Id {
	id := treeOf(s, "git", entry(0o100644, "f", blob(s, "git", "")))
	for range n {
		id = treeOf(s, "git", entry(0o40000, "d", id))
	}
	return id
}

// swapped are two merges that are alike but for the order of their parents, whose files are alike.
func swapped(s *files.Store, id api.Id) {
	_, body, _ := odb.Get(s, "git", id)
	c, _ := commit.Parse(body)
	other := commitOf(s, "git", commit.Commit{Tree: c.Tree, Message: "other"})
	a := commitOf(s, "git", commit.Commit{Tree: treeOf(s, "git"), Parents: []api.Id{id, other}})
	b := commitOf(s, "git", commit.Commit{Tree: treeOf(s, "git"), Parents: []api.Id{other, id}})
	setRef(s, "git", "refs/heads/a", a)
	setRef(s, "git", "refs/heads/b", b)
}

// P25.1: the bookmarks are set, if they aren't so, whatever they were.
func TestBookmarksAreSet(t *testing.T) {
	s, _ := one()
	is(t, "Forward", forward(s), api.OK)
	want, _ := vault.Marks(s, "hg")
	for _, text := range []string{"", "x", strings.Repeat("0", 40) + " other\n"} {
		lie(s, "hg/bookmarks", text)
		is(t, "Forward", forward(s), api.OK)
		if m, e := vault.Marks(s, "hg"); e != api.OK || !reflect.DeepEqual(m, want) {
			t.Errorf("%q: %v %d", text, m, e)
		}
	}
}

// P25.1: more commits than may be; most of them lie in a pack, of which each Get reads all.
func TestTooManyCommits(t *testing.T) {
	s := files.New(room)
	empty := treeOf(s, "git")
	const packed = 200
	var items []pack.Item
	var ids []api.Id
	for i := range api.MaxItems + 1 {
		c := commit.Commit{Tree: empty, Parents: ids[max(0, i-1):i], Author: ann, Committer: ann, Message: strconv.Itoa(i)}
		body, _ := commit.Print(c)
		id, _ := object.Id(object.Commit, body)
		ids = append(ids, id)
		if i < packed {
			items = append(items, pack.Item{Kind: object.Commit, Body: body})
			continue
		}
		put(s, "git", object.Commit, body)
	}
	b, _ := pack.Write(items)
	index, _ := pack.Index(b)
	hex := sha.Hex(api.Id(b[len(b)-20:]))
	lie(s, "git/pack/"+hex+".pack", string(b))
	lie(s, "git/pack/"+hex+".idx", string(index))
	setRef(s, "git", "refs/heads/main", ids[api.MaxItems])
	is(t, "Forward", forward(s), api.ErrLong)
	if v, _ := vault.Load(s, "hg"); len(v.Nodes) != 0 {
		t.Error("something was converted")
	}
	var pairs []marks.Pair
	for _, id := range ids {
		pairs = append(pairs, marks.Pair{Git: id, Hg: id})
	}
	is(t, "Save", marks.Save(s, "map", pairs), api.OK)
	is(t, "Forward, all being marked", forward(s), api.ErrLong)
	setRef(s, "git", "refs/heads/main", ids[api.MaxItems-1])
	is(t, "Forward of as many as may be", forward(s), api.OK)
}

// P25.2 and T6.
func TestErrorsOfBack(t *testing.T) {
	logOf := func(s *files.Store, l ...revlog.Rev) {
		var b []byte
		for _, r := range l {
			b, _, _ = revlog.Add(b, r)
		}
		lie(s, "hg/store/00changelog.i", string(b))
	}
	text := func(m api.Id) []byte {
		b, _ := change.Print(change.Change{User: "u", Manifest: m})
		return b
	}
	long, _ := manifest.Print([]manifest.File{{Path: strings.Repeat("A", 200)}})
	cases := map[string]struct {
		change func(s *files.Store, node api.Id)
		e      api.Errno
	}{
		"marks of another form": {func(s *files.Store, node api.Id) { lie(s, "map", "x"); lie(s, "hg/store/00changelog.i", "x") }, api.ErrForm},
		"a broken changelog":    {func(s *files.Store, node api.Id) { lie(s, "hg/store/00changelog.i", "x"); lie(s, "hg/bookmarks", "x") }, api.ErrEnd},
		"broken bookmarks":      {func(s *files.Store, node api.Id) { lie(s, "hg/bookmarks", "x") }, api.ErrForm},
		"a bookmark of nothing": {func(s *files.Store, node api.Id) { mark(s, node, "a", "a..b"); mark(s, api.Id{1}, "z") }, api.ErrNone},
		"nothing comes first": {func(s *files.Store, node api.Id) {
			lie(s, "hg/bookmarks", sha.Hex(node)+" a..b\n"+sha.Hex(api.Id{1})+" c\n")
		}, api.ErrNone},
		"a name that no ref has":   {func(s *files.Store, node api.Id) { mark(s, node, "a..b") }, api.ErrArg},
		"a name, and a clash":      {func(s *files.Store, node api.Id) { mark(s, node, "a", "a/b", "b.lock") }, api.ErrArg},
		"too long a name":          {func(s *files.Store, node api.Id) { mark(s, node, strings.Repeat("a", 190)) }, api.ErrArg},
		"a name that is two":       {func(s *files.Store, node api.Id) { mark(s, node, "a", "a-b", "a/b") }, api.ErrClash},
		"a clash further within":   {func(s *files.Store, node api.Id) { mark(s, node, "a", "a/b/c") }, api.ErrClash},
		"a clash, and broken refs": {func(s *files.Store, node api.Id) { mark(s, node, "a", "a/b"); lie(s, "git/refs/x", "") }, api.ErrClash},
		"broken refs":              {func(s *files.Store, node api.Id) { lie(s, "git/refs/heads/x", "") }, api.ErrForm},
		"a second parent alone": {func(s *files.Store, node api.Id) {
			s.Remove("hg/bookmarks")
			logOf(s, revlog.Rev{P1: -1, P2: -1, Text: text(none)}, revlog.Rev{P1: -1, P2: 0, Text: text(none)})
			v, _ := vault.Load(s, "hg")
			marks.Save(s, "map", []marks.Pair{{Git: api.Id{1}, Hg: v.Nodes[0]}})
		}, api.ErrForm},
		"no manifest": {func(s *files.Store, node api.Id) {
			s.Remove("hg/bookmarks")
			logOf(s, revlog.Rev{P1: -1, P2: -1, Text: text(none)})
		}, api.ErrNone},
		"a name too long": {func(s *files.Store, node api.Id) {
			s.Remove("hg/bookmarks")
			b, m, _ := revlog.Add(nil, revlog.Rev{P1: -1, P2: -1, Text: long})
			lie(s, "hg/store/00manifest.i", string(b))
			logOf(s, revlog.Rev{P1: -1, P2: -1, Text: text(m)})
		}, api.ErrLong},
		"a ref in the way": {func(s *files.Store, node api.Id) { setRef(s, "git", "refs/heads", api.Id{1}); mark(s, node, "a") }, api.ErrClash},
		"a mark that clashes": {func(s *files.Store, node api.Id) {
			other := copied(s, room)
			is(t, "Back", back(other), api.OK)
			id, _ := refs.Get(other, "git", "refs/heads/main")
			marks.Save(s, "map", []marks.Pair{{Git: id, Hg: api.Id{1}}})
		}, api.ErrClash},
	}
	for name, c := range cases {
		t.Run(name, func(t *testing.T) {
			s := files.New(room)
			node, e := vault.Commit(s, "hg", none, none, change.Change{User: "u"}, []vault.File{{Path: "a/b", Text: []byte("x")}})
			is(t, "Commit", e, api.OK)
			mark(s, node, "main")
			c.change(s, node)
			was := state(s, "hg/")
			is(t, name, back(s), c.e)
			is(t, name+", again", back(s), c.e)
			if !reflect.DeepEqual(state(s, "hg/"), was) {
				t.Error("the source was written to")
			}
			if name == "broken refs" && len(s.List("git/objects/")) > 0 {
				t.Error("something was converted")
			}
		})
	}
}

func mark(s *files.Store, node api.Id, names ...string) {
	text := ""
	for _, name := range names {
		text += sha.Hex(node) + " " + name + "\n"
	}
	lie(s, "hg/bookmarks", text)
}

// P25.2: what a change becomes, object by object.
func TestBackOfOneChange(t *testing.T) {
	s := files.New(room)
	x := change.Change{User: "u", Time: 7, Desc: "d"}
	n0, _ := vault.Commit(s, "hg", none, none, x, nil)
	l := []vault.File{{Path: "a-b", Text: []byte("1")}, {Path: "a/b/c", Flag: "x", Text: []byte("2")}, {Path: "a/d", Flag: "l", Text: []byte("3")}, {Path: "a0", Text: []byte("1")}}
	n1, _ := vault.Commit(s, "hg", n0, n0, x, l)
	mark(s, n1, "b/x", "main")
	is(t, "Back", back(s), api.OK)
	want := files.New(room)
	first := commitFrom(want, x, treeOf(want, "git"))
	b := treeOf(want, "git", entry(0o100755, "c", blob(want, "git", "2")))
	a := treeOf(want, "git", entry(0o40000, "b", b), entry(0o120000, "d", blob(want, "git", "3")))
	root := treeOf(want, "git", entry(0o40000, "a", a), entry(0o100644, "a-b", blob(want, "git", "1")), entry(0o100644, "a0", blob(want, "git", "1")))
	second := commitFrom(want, x, root, first, first)
	setRef(want, "git", "refs/heads/main", second)
	setRef(want, "git", "refs/heads/b/x", second)
	if !reflect.DeepEqual(state(s, "git/"), state(want, "git/")) {
		t.Errorf("%q, want %q", s.List("git/"), want.List(""))
	}
	if p, _ := marks.Load(s, "map"); !reflect.DeepEqual(p, []marks.Pair{{Git: first, Hg: n0}, {Git: second, Hg: n1}}) {
		t.Errorf("%v", p)
	}
}

func commitFrom(s *files.Store, x change.Change, root api.Id, parents ...api.Id) api.Id {
	c, _ := trans.Commit(x)
	c.Tree, c.Parents = root, parents
	return commitOf(s, "git", c)
}

// P25.2, step 3: refs that are nobody's bookmark are dropped, others are set; those elsewhere stay.
func TestRefsOfBack(t *testing.T) {
	s, id := one()
	is(t, "Forward", forward(s), api.OK)
	for _, name := range []string{"refs/heads/old", "refs/heads/b", "refs/tags/t", "refs/headsx"} {
		setRef(s, "git", name, id)
	}
	refs.Pack(s, "git")
	setRef(s, "git", "refs/heads/main", api.Id{1})
	v, _ := vault.Load(s, "hg")
	mark(s, v.Nodes[0], "b/c", "main")
	is(t, "Back", back(s), api.OK)
	want := []refs.Ref{{Name: "refs/heads/b/c", Id: id}, {Name: "refs/heads/main", Id: id}, {Name: "refs/headsx", Id: id}, {Name: "refs/tags/t", Id: id}}
	if l, e := refs.List(s, "git"); e != api.OK || !reflect.DeepEqual(l, want) {
		t.Errorf("%v %d", l, e)
	}
}

// P1: arguments of all kinds.
func TestOddArguments(t *testing.T) {
	is(t, "Forward of no store", convert.Forward(nil, "", "", ""), api.OK)
	is(t, "Back of no store", convert.Back(nil, "", "", ""), api.OK)
	s, _ := one()
	is(t, "Forward to no path", convert.Forward(s, "git", "..", "map"), api.ErrArg)
	is(t, "Forward with no map", convert.Forward(s, "git", "hg", ""), api.ErrArg)
	is(t, "Forward", forward(s), api.OK)
	is(t, "Back to no path", convert.Back(s, "a//b", "hg", "m"), api.ErrArg)
	root, _ := tree.Print(nil)
	if len(root) != 0 {
		t.Error("the body of no entries")
	}
}
