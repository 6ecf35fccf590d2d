package marks_test

import (
	"slices"
	"strings"
	"testing"

	"tramway/api"
	"tramway/files"
	"tramway/marks"
	"tramway/sha"
)

func p(git, hg byte) marks.Pair { return marks.Pair{Git: api.Id{git, 0xab}, Hg: api.Id{19: hg}} }

func line(x marks.Pair) string { return sha.Hex(x.Git) + " " + sha.Hex(x.Hg) + "\n" }

type list = []marks.Pair

// P24.1
func TestPrintAndParse(t *testing.T) {
	for _, l := range []list{nil, {p(1, 2)}, {p(2, 1), p(1, 2), p(3, 3)}, {{}}} {
		want := ""
		for _, x := range l {
			want += line(x)
		}
		if b, e := marks.Print(l); string(b) != want || e != api.OK {
			t.Errorf("Print(%v): %q %d", l, b, e)
		}
		if got, e := marks.Parse([]byte(want)); !slices.Equal(got, l) || e != api.OK {
			t.Errorf("Parse(%q): %v %d", want, got, e)
		}
	}
	for _, l := range []list{{p(1, 2), p(1, 3)}, {p(1, 2), p(3, 2)}, {p(1, 2), p(1, 2)}, {p(1, 2), p(3, 4), p(5, 2)}} {
		if b, e := marks.Print(l); b != nil || e != api.ErrClash {
			t.Errorf("Print(%v): %q %d", l, b, e)
		}
		text := ""
		for _, x := range l {
			text += line(x)
		}
		if got, e := marks.Parse([]byte(text)); got != nil || e != api.ErrClash {
			t.Errorf("Parse(%q): %v %d", text, got, e)
		}
		if got, e := marks.Parse([]byte(text + "x")); got != nil || e != api.ErrForm {
			t.Errorf("Parse(%q): %v %d", text+"x", got, e)
		}
	}
	a := line(p(1, 2))
	for _, s := range []string{"\n", "x", a[:len(a)-1], a + "\n", " " + a, a[1:], a[:41] + a[42:], a[:40] + "  " + a[41:], a[:40] + a[41:], strings.ToUpper(a), a[:len(a)-1] + " \n", a[:len(a)-1] + "\r\n", a[:41] + "\n"} {
		if got, e := marks.Parse([]byte(s)); got != nil || e != api.ErrForm {
			t.Errorf("Parse(%q): %v %d", s, got, e)
		}
	}
}

// P24.2
func TestAdd(t *testing.T) {
	l := list{p(1, 2), p(3, 4)}
	for _, c := range []struct {
		l    list
		p    marks.Pair
		want list
		e    api.Errno
	}{
		{nil, p(1, 2), list{p(1, 2)}, api.OK}, {l, p(5, 6), append(slices.Clone(l), p(5, 6)), api.OK}, {l, p(3, 4), l, api.OK}, {l, p(1, 3), nil, api.ErrClash}, {l, p(5, 4), nil, api.ErrClash}, {l, p(1, 4), nil, api.ErrClash},
		{l, p(2, 1), append(slices.Clone(l), p(2, 1)), api.OK}, {list{p(1, 2), p(1, 3)}, p(1, 3), list{p(1, 2), p(1, 3)}, api.OK}, {list{p(1, 2), p(1, 3)}, p(1, 4), nil, api.ErrClash},
	} {
		if got, e := marks.Add(c.l, c.p); !slices.Equal(got, c.want) || e != c.e {
			t.Errorf("Add(%v, %v): %v %d", c.l, c.p, got, e)
		}
	}
}

// P24.2
func TestPartners(t *testing.T) {
	l := list{p(1, 2), p(3, 4), p(1, 5), p(6, 4)}
	for _, c := range [][2]byte{{1, 2}, {3, 4}, {6, 4}} {
		if got, ok := marks.Hg(l, p(c[0], 0).Git); got != p(0, c[1]).Hg || !ok {
			t.Errorf("Hg of %d: %v %v", c[0], got, ok)
		}
	}
	for _, c := range [][2]byte{{2, 1}, {4, 3}, {5, 1}} {
		if got, ok := marks.Git(l, p(0, c[0]).Hg); got != p(c[1], 0).Git || !ok {
			t.Errorf("Git of %d: %v %v", c[0], got, ok)
		}
	}
	for _, l := range []list{l, nil} {
		if got, ok := marks.Hg(l, p(2, 0).Git); got != (api.Id{}) || ok {
			t.Error("Hg of none")
		}
		if got, ok := marks.Git(l, p(0, 1).Hg); got != (api.Id{}) || ok {
			t.Error("Git of none")
		}
	}
}

// P24.3
func TestLoadAndSave(t *testing.T) {
	s := files.New(1000)
	if l, e := marks.Load(s, "m"); len(l) != 0 || e != api.OK {
		t.Errorf("no file: %v %d", l, e)
	}
	l := list{p(1, 2), p(3, 4)}
	if e := marks.Save(s, "d/m", l); e != api.OK {
		t.Fatal(e)
	}
	s.Crash()
	if got, e := marks.Load(s, "d/m"); !slices.Equal(got, l) || e != api.OK || len(s.List("")) != 1 {
		t.Errorf("%v %d", got, e)
	}
	if e := marks.Save(s, "d/m", list{p(1, 2), p(1, 3)}); e != api.ErrClash {
		t.Errorf("no marks: %d", e)
	}
	for text, want := range map[string]api.Errno{"x": api.ErrForm, line(p(1, 2)) + line(p(1, 3)): api.ErrClash} {
		s.Remove("x")
		s.Write("x", 0, []byte(text))
		if got, e := marks.Load(s, "x"); got != nil || e != want {
			t.Errorf("%q: %v %d", text, got, e)
		}
	}
	if e := marks.Save(files.New(3), "m", l); e != api.ErrFull {
		t.Errorf("no room: %d", e)
	}
	if e := marks.Save(s, "..", l); e != api.ErrArg {
		t.Errorf("no path: %d", e)
	}
	if e := marks.Save(nil, "m", nil); e != api.ErrState {
		t.Errorf("no store: %d", e)
	}
	if l, e := marks.Load(nil, "m"); len(l) != 0 || e != api.OK {
		t.Errorf("no store: %v %d", l, e)
	}
}

// P24.3: whenever the power goes, the marks are the old ones or the new ones.
func TestSaveInterrupted(t *testing.T) {
	old, more := list{p(1, 2)}, list{p(1, 2), p(3, 4)}
	for n := range 6 {
		s := files.New(10000)
		marks.Save(s, "m", old)
		s.Write("m.tmp", 0, make([]byte, 500))
		s.Arm(n)
		e := marks.Save(s, "m", more)
		if n == 2 && len(s.List("m.tmp")) != 1 {
			t.Error("the file m.tmp is the way")
		}
		s.Crash(n%2, n%3)
		want := old
		if n >= 4 {
			want = more
		}
		if l, f := marks.Load(s, "m"); !slices.Equal(l, want) || f != api.OK || (e == api.OK) != (n >= 4) {
			t.Errorf("%d changes: %v %d %d", n, l, e, f)
		}
	}
}

// P24.4
func TestMemory(t *testing.T) {
	l := append(make(list, 0, 9), p(1, 2))
	got, _ := marks.Add(l, p(3, 4))
	again, _ := marks.Add(l, p(1, 2))
	got[0], again[0] = p(7, 7), p(8, 8)
	if l[0] != p(1, 2) || l[:2][1] != (marks.Pair{}) {
		t.Error("an argument was changed")
	}
}
