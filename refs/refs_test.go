package refs_test

import (
	"bytes"
	"slices"
	"strings"
	"testing"

	"tramway/api"
	"tramway/files"
	"tramway/refs"
	"tramway/sha"
)

const room = 1 << 20

func id(x byte) api.Id { return api.Id{x, 1, 2, 3, 0xab} }

func line(x byte, behind string) string { return sha.Hex(id(x)) + behind + "\n" }

// lie writes a file as it is.
func lie(s *files.Store, path, b string) {
	s.Remove(path)
	s.Write(path, 0, []byte(b))
	s.Sync(path)
}

func state(s *files.Store) string {
	var out strings.Builder
	for _, p := range s.List("") {
		b, _ := s.Read(p)
		out.WriteString(p + "=" + string(b) + ";")
	}
	return out.String()
}

func lists(t *testing.T, s *files.Store, front string, want ...refs.Ref) {
	t.Helper()
	if l, e := refs.List(s, front); e != api.OK || !slices.Equal(l, want) {
		t.Errorf("List: %v %d, want %v", l, e, want)
	}
	for _, r := range want {
		if got, e := refs.Get(s, front, r.Name); got != r.Id || e != api.OK {
			t.Errorf("Get of %s: %x %d", r.Name, got, e)
		}
	}
}

func is(t *testing.T, what string, got, want api.Errno) {
	t.Helper()
	if got != want {
		t.Errorf("%s: %d, want %d", what, got, want)
	}
}

func rightNames() []string {
	return []string{"refs/a", "refs/heads/a", "refs/heads/a/b", "refs/a.b", "refs/a.lockx", "refs/lock", "refs/@", "refs/a@", "refs/a{b", "refs/}", "refs/refs/x", "refs/\xff\x80", "refs/a!\"#$%&'()+,-;<=>]_`|", "refs/heads/é",
		"refs/" + strings.Repeat("a", 195), "refs/HEAD"}
}

func wrongNames() []string {
	l := []string{"", "refs", "refs/", "heads/a", "/refs/a", "Refs/a", "refs/a/", "refs//a", "refs/a//b", "refs/.", "refs/..", "refs/.a", "refs/a/.b", "refs/a..b", "refs/a..", "refs/a.lock", "refs/a.lock/b", "refs/.lock", "refs/x/.lock",
		"refs/a.", "refs/a@{b", "refs/@{", "refs/" + strings.Repeat("a", 196), "refs/" + strings.Repeat("a/", 99) + "a"}
	for _, c := range []byte{0, 1, 10, 13, 31, 32, 127, '~', '^', ':', '?', '*', '[', '\\'} {
		l = append(l, "refs/a"+string(rune(c))+"b")
	}
	return l
}

// P14.1
func TestRight(t *testing.T) {
	for _, name := range rightNames() {
		if !refs.Right(name) {
			t.Errorf("%q is right", name)
		}
	}
	for _, name := range wrongNames() {
		if refs.Right(name) {
			t.Errorf("%q isn't right", name)
		}
	}
	if !refs.Right("refs/a./b") {
		t.Error("a point may end a part that isn't the last one")
	}
}

// P14.1
func TestPacked(t *testing.T) {
	l := []refs.Ref{{Name: "refs/a", Id: id(3)}, {Name: "refs/a/b", Id: id(1)}, {Name: "refs/b", Id: api.Id{}}}
	text := line(3, " refs/a") + line(1, " refs/a/b") + strings.Repeat("0", 40) + " refs/b\n"
	if b, e := refs.PrintPacked(l); string(b) != text || e != api.OK {
		t.Errorf("%q %d", b, e)
	}
	if got, e := refs.ParsePacked([]byte(text)); !slices.Equal(got, l) || e != api.OK {
		t.Errorf("%v %d", got, e)
	}
	if b, e := refs.PrintPacked(nil); len(b) != 0 || e != api.OK {
		t.Errorf("none: %q %d", b, e)
	}
	if got, e := refs.ParsePacked(nil); len(got) != 0 || e != api.OK {
		t.Errorf("none: %v %d", got, e)
	}
	for _, l := range [][]refs.Ref{{l[1], l[0]}, {l[0], l[0]}, {{Name: "a"}}, {l[0], {Name: "refs/b\n"}}, {{}}} {
		if b, e := refs.PrintPacked(l); b != nil || e != api.ErrForm {
			t.Errorf("%v: %q %d", l, b, e)
		}
	}
	a := line(3, " refs/a")
	for _, s := range []string{"\n", "x", a[:len(a)-1], a + "\n", a + a, line(1, " refs/b") + a, line(1, "  refs/a"), line(1, "refs/a"), line(1, " refs/a "), line(1, " heads/a"), line(1, ""), strings.ToUpper(a), " " + a, "# pack-refs\n" + a, a[1:], line(1, " refs/a\r")} {
		if got, e := refs.ParsePacked([]byte(s)); got != nil || e != api.ErrForm {
			t.Errorf("%q: %v %d", s, got, e)
		}
	}
	for _, name := range wrongNames() {
		if _, e := refs.ParsePacked([]byte(line(1, " "+name))); e != api.ErrForm {
			t.Errorf("%q: %d", name, e)
		}
	}
}

// fill: loose ones, packed ones, and one that is both.
func fill(front string) *files.Store {
	s := files.New(room)
	lie(s, front+"packed-refs", line(1, " refs/heads/a")+line(2, " refs/heads/b")+line(3, " refs/tags/t"))
	lie(s, front+"refs/heads/b", line(4, ""))
	lie(s, front+"refs/heads/c", line(5, ""))
	lie(s, front+"refsx", "")
	lie(s, front+"objects/x", "")
	return s
}

func filled() []refs.Ref {
	return []refs.Ref{{Name: "refs/heads/a", Id: id(1)}, {Name: "refs/heads/b", Id: id(4)}, {Name: "refs/heads/c", Id: id(5)}, {Name: "refs/tags/t", Id: id(3)}}
}

// P14.2
func TestListAndGet(t *testing.T) {
	lists(t, fill(""), "", filled()...)
	lists(t, fill("f/g/"), "f/g", filled()...)
	lists(t, files.New(0), "")
	lists(t, nil, "")
	s := fill("")
	for _, name := range wrongNames() {
		if got, e := refs.Get(s, "", name); got != (api.Id{}) || e != api.ErrArg {
			t.Errorf("Get of %q: %d", name, e)
		}
	}
	for _, name := range []string{"refs/heads", "refs/heads/d", "refs/heads/a/b"} {
		if got, e := refs.Get(s, "", name); got != (api.Id{}) || e != api.ErrNone {
			t.Errorf("Get of %q: %d", name, e)
		}
	}
}

// P14.2 to P14.5
func TestWrongFiles(t *testing.T) {
	for _, c := range [][2]string{{"packed-refs", "x"}, {"refs/heads/b", ""}, {"refs/heads/b", line(1, "")[:40]}, {"refs/heads/b", line(1, "") + "\n"}, {"refs/heads/b", line(1, " ")}, {"refs/heads/b", "ref: refs/heads/a\n"},
		{"refs/heads/b", strings.ToUpper(line(1, ""))}, {"refs/heads/.x", line(1, "")}, {"refs/heads/x.lock", line(1, "")}, {"refs/x y", line(1, "")}} {
		s := fill("g/")
		lie(s, "g/"+c[0], c[1])
		was := state(s)
		if l, e := refs.List(s, "g"); l != nil || e != api.ErrForm {
			t.Errorf("%q, List: %d", c, e)
		}
		got, e := refs.Get(s, "g", "refs/heads/a")
		is(t, "Get", e, api.ErrForm)
		_, no := refs.Get(s, "g", "refs/none")
		is(t, "Get of none", no, api.ErrForm)
		is(t, "Set", refs.Set(s, "g", "refs/heads/a", id(9)), api.ErrForm)
		is(t, "Drop", refs.Drop(s, "g", "refs/heads/a"), api.ErrForm)
		is(t, "Pack", refs.Pack(s, "g"), api.ErrForm)
		if got != (api.Id{}) || state(s) != was {
			t.Errorf("%q: files were changed", c)
		}
		is(t, "Set of no name", refs.Set(s, "g", "a", id(9)), api.ErrArg)
		is(t, "Drop of no name", refs.Drop(s, "g", "a"), api.ErrArg)
	}
}

// P14.3
func TestSet(t *testing.T) {
	s := fill("")
	is(t, "a packed one", refs.Set(s, "", "refs/heads/a", id(7)), api.OK)
	is(t, "a new one", refs.Set(s, "", "refs/heads/n/m", id(8)), api.OK)
	is(t, "one that is like others", refs.Set(s, "", "refs/heads/a.b", id(9)), api.OK)
	want := []refs.Ref{{Name: "refs/heads/a", Id: id(7)}, {Name: "refs/heads/a.b", Id: id(9)}, filled()[1], filled()[2], {Name: "refs/heads/n/m", Id: id(8)}, filled()[3]}
	lists(t, s, "", want...)
	if b, _ := s.Read("refs/heads/a"); string(b) != line(7, "") {
		t.Errorf("%q", b)
	}
	was := state(s)
	for _, name := range []string{"refs/heads", "refs/heads/a/x", "refs/heads/c/x/y", "refs/tags", "refs/tags/t/u", "refs/heads/n", "refs/heads/n/m/o"} {
		is(t, "Set of "+name, refs.Set(s, "", name, id(1)), api.ErrClash)
	}
	for _, name := range wrongNames() {
		is(t, "Set of "+name, refs.Set(s, "", name, id(1)), api.ErrArg)
	}
	if state(s) != was {
		t.Error("files were changed")
	}
	is(t, "no room", refs.Set(files.New(40), "", "refs/a", id(1)), api.ErrFull)
	is(t, "no store", refs.Set(nil, "", "refs/a", id(1)), api.ErrState)
}

// P14.3
func TestDrop(t *testing.T) {
	s := fill("")
	is(t, "one that is both", refs.Drop(s, "", "refs/heads/b"), api.OK)
	l := filled()
	lists(t, s, "", l[0], l[2], l[3])
	is(t, "a packed one", refs.Drop(s, "", "refs/heads/a"), api.OK)
	is(t, "a loose one", refs.Drop(s, "", "refs/heads/c"), api.OK)
	lists(t, s, "", l[3])
	is(t, "again", refs.Drop(s, "", "refs/heads/c"), api.ErrNone)
	is(t, "no name", refs.Drop(s, "", "refs/heads/"), api.ErrArg)
	is(t, "the last one", refs.Drop(s, "", "refs/tags/t"), api.OK)
	lists(t, s, "")
	if b, e := s.Read("packed-refs"); len(b) != 0 || e != api.OK {
		t.Errorf("%q %d", b, e)
	}
	is(t, "and now a name that lies under it", refs.Set(s, "", "refs/heads/c/d", id(1)), api.OK)
}

// P14.3: of a ref without a file nothing is removed.
func TestDropOfPackedWhenThePowerGoesBehind(t *testing.T) {
	s := fill("")
	s.Arm(4)
	is(t, "Drop", refs.Drop(s, "", "refs/heads/a"), api.OK)
}

// P14.4
func TestHead(t *testing.T) {
	s := files.New(room)
	head := func(wantName string, wantId api.Id, want api.Errno) {
		t.Helper()
		if name, got, e := refs.Head(s, "g"); name != wantName || got != wantId || e != want {
			t.Errorf("%q %x %d", name, got, e)
		}
	}
	head("", api.Id{}, api.ErrNone)
	is(t, "SetHead", refs.SetHead(s, "g", "refs/heads/main"), api.OK)
	if b, _ := s.Read("g/HEAD"); string(b) != "ref: refs/heads/main\n" {
		t.Errorf("%q", b)
	}
	head("refs/heads/main", api.Id{}, api.OK)
	for _, name := range wrongNames() {
		is(t, "SetHead", refs.SetHead(s, "g", name), api.ErrArg)
	}
	head("refs/heads/main", api.Id{}, api.OK)
	lie(s, "g/HEAD", line(7, ""))
	head("", id(7), api.OK)
	for _, b := range []string{"", "\n", "ref: refs/a", "ref: refs/a\n\n", "ref:refs/a\n", "ref:  refs/a\n", "ref: a\n", "ref: refs/a.lock\n", "Ref: refs/a\n", line(7, "")[:40], line(7, "\n"), line(7, "")[1:], "ref: " + line(7, "")} {
		lie(s, "g/HEAD", b)
		head("", api.Id{}, api.ErrForm)
	}
	is(t, "no room", refs.SetHead(files.New(3), "", "refs/a"), api.ErrFull)
}

// P14.5
func TestPack(t *testing.T) {
	s := fill("g/")
	is(t, "Pack", refs.Pack(s, "g"), api.OK)
	lists(t, s, "g", filled()...)
	if l := s.List("g/refs/"); len(l) != 0 {
		t.Errorf("%q", l)
	}
	want, _ := refs.PrintPacked(filled())
	if b, _ := s.Read("g/packed-refs"); !bytes.Equal(b, want) {
		t.Errorf("%q", b)
	}
	none := files.New(room)
	none.Arm(0)
	is(t, "without refs", refs.Pack(none, ""), api.OK)
	full := fill("")
	used := full.Used()
	little := files.New(used + 50)
	for _, p := range full.List("") {
		b, _ := full.Read(p)
		lie(little, p, string(b))
	}
	is(t, "no room", refs.Pack(little, ""), api.ErrFull)
	lists(t, little, "", filled()...)
}

// P14.6: whenever the power goes, refs are as before, or the one that is meant as behind; then it is done again.
func TestInterrupted(t *testing.T) {
	without := func(i int) []refs.Ref { return slices.Delete(filled(), i, i+1) }
	with := filled()
	with[1].Id = id(9)
	for name, c := range map[string]struct {
		do   func(s *files.Store) api.Errno
		want []refs.Ref
	}{
		"Set":                   {func(s *files.Store) api.Errno { return refs.Set(s, "", "refs/heads/b", id(9)) }, with},
		"Drop of one":           {func(s *files.Store) api.Errno { return refs.Drop(s, "", "refs/heads/a") }, without(0)},
		"Drop of one in both":   {func(s *files.Store) api.Errno { return refs.Drop(s, "", "refs/heads/b") }, without(1)},
		"Drop of one in a file": {func(s *files.Store) api.Errno { return refs.Drop(s, "", "refs/heads/c") }, without(2)},
		"Pack":                  {func(s *files.Store) api.Errno { return refs.Pack(s, "") }, filled()},
	} {
		for n := 0; ; n++ {
			s := fill("")
			s.Arm(n)
			e := c.do(s)
			before, _ := refs.List(s, "")
			s.Crash(n%3, n%2, n%4)
			l, f := refs.List(s, "")
			if f != api.OK || !slices.Equal(l, before) || !slices.Equal(l, filled()) && !slices.Equal(l, c.want) || e == api.OK && !slices.Equal(l, c.want) {
				t.Fatalf("%s, %d changes: %v %d %d", name, n, l, e, f)
			}
			if e == api.OK {
				break
			}
			if f := c.do(s); f != api.OK && !slices.Equal(l, c.want) {
				t.Fatalf("%s, %d changes, again: %d", name, n, f)
			}
			lists(t, s, "", c.want...)
		}
	}
}
