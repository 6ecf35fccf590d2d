package manifest_test

import (
	"bytes"
	"math/rand"
	"slices"
	"strings"
	"testing"

	"tramway/api"
	"tramway/manifest"
	"tramway/sha"
)

func f(path, flag string, x byte) manifest.File {
	return manifest.File{Path: path, Node: api.Id{x, 0xab}, Flag: flag}
}

func line(path, flag string, x byte) string {
	return path + "\x00" + sha.Hex(api.Id{x, 0xab}) + flag + "\n"
}

func rightLists() [][]manifest.File {
	return [][]manifest.File{
		nil, {f("a", "x", 1)}, {f("a", "", 1), f("b", "l", 1), f("c", "x", 0)}, {f("a", "", 1), f("a-b", "", 2), f("a.b", "", 2), f("a0", "", 3)}, {f("a-b", "", 1), f("a/b", "", 2), f("a/b-", "", 2), f("a/bc/d", "", 2)},
		{f("A", "", 1), f("a", "", 1), f("\xff", "", 1)}, {f("\x01", "", 1), f(strings.Repeat("a", 255), "", 1)},
	}
}

func wrongLists() [][]manifest.File {
	return [][]manifest.File{
		{f("", "", 1)}, {f("/a", "", 1)}, {f("a\n", "", 1)}, {f("a\x00", "", 1)}, {f("a\r", "", 1)}, {f("..", "", 1)}, {f(strings.Repeat("a", 256), "", 1)}, {f("a", "t", 1)}, {f("a", "xl", 1)}, {f("a", "X", 1)}, {f("a", "\n", 1)},
		{f("b", "", 1), f("a", "", 1)}, {f("a", "", 1), f("a", "", 1)}, {f("a", "", 1), f("a", "x", 2)}, {f("a", "", 1), f("a/b", "", 1)}, {f("a", "", 1), f("a-b", "", 1), f("a/b", "", 1)}, {f("a", "", 1), f("a/b/c", "", 1)},
		{f("a/b", "", 1), f("a/b/c/d", "", 1)},
	}
}

func text(l []manifest.File) string {
	var s strings.Builder
	for _, x := range l {
		s.WriteString(x.Path + "\x00" + sha.Hex(x.Node) + x.Flag + "\n")
	}
	return s.String()
}

// P18.1
func TestPrintAndParse(t *testing.T) {
	if b, e := manifest.Print([]manifest.File{f("a", "x", 0x12)}); string(b) != "a\x0012ab"+strings.Repeat("0", 36)+"x\n" || e != api.OK {
		t.Errorf("%q %d", b, e)
	}
	for _, l := range rightLists() {
		b, e := manifest.Print(l)
		if string(b) != text(l) || e != api.OK {
			t.Errorf("Print(%v): %q %d", l, b, e)
		}
		if got, e := manifest.Parse(b); !slices.Equal(got, l) || e != api.OK {
			t.Errorf("Parse(%q): %v %d", b, got, e)
		}
	}
	for _, l := range wrongLists() {
		if b, e := manifest.Print(l); b != nil || e != api.ErrForm {
			t.Errorf("Print(%v): %q %d", l, b, e)
		}
		if got, e := manifest.Parse([]byte(text(l))); got != nil || e != api.ErrForm {
			t.Errorf("Parse(%q): %v %d", text(l), got, e)
		}
	}
}

// P18.1
func TestParseOfWrongBytes(t *testing.T) {
	a := line("a", "", 1)
	for _, s := range []string{"\n", "x", "a\x00", a[:len(a)-1], a + "\n", a[:30] + "\n", a + "b", "a " + a[2:], strings.ToUpper(a), a[:len(a)-1] + " \n", a[:len(a)-1] + "\x00\n", "a\x00\x00" + a[2:], a[:len(a)-2] + "g\n"} {
		if l, e := manifest.Parse([]byte(s)); l != nil || e != api.ErrForm {
			t.Errorf("Parse(%q): %v %d", s, l, e)
		}
	}
}

// P18.2
func TestFind(t *testing.T) {
	l := []manifest.File{f("b", "", 1), f("a", "x", 2), f("b", "l", 3), f("", "?", 4)}
	for path, want := range map[string]manifest.File{"b": l[0], "a": l[1], "": l[3]} {
		if got, ok := manifest.Find(l, path); got != want || !ok {
			t.Errorf("Find(%q): %v %v", path, got, ok)
		}
	}
	for _, l := range [][]manifest.File{l, nil} {
		if got, ok := manifest.Find(l, "c"); got != (manifest.File{}) || ok {
			t.Errorf("Find of none: %v %v", got, ok)
		}
	}
}

// P18.2
func TestDiff(t *testing.T) {
	l := []manifest.File{f("a", "", 1), f("b", "", 2), f("c", "", 3)}
	for _, c := range []struct {
		a, b []manifest.File
		want []string
	}{
		{nil, nil, nil}, {l, l, nil}, {l, nil, []string{"a", "b", "c"}}, {nil, l, []string{"a", "b", "c"}}, {l, l[1:], []string{"a"}}, {l[:1], l, []string{"b", "c"}},
		{l, []manifest.File{f("a", "x", 1), f("b", "", 9), f("c", "", 3)}, []string{"a", "b"}},
		{[]manifest.File{l[2], l[0], l[1]}, l, nil}, {[]manifest.File{l[0], l[0]}, l[:1], []string{"a"}},
		{[]manifest.File{f("a", "", 1), f("z", "", 5), f("a", "", 2)}, []manifest.File{f("a", "", 2), f("a", "", 1)}, []string{"a", "z"}},
		{[]manifest.File{f("a", "", 1), f("z", "", 5), f("a", "", 2)}, []manifest.File{f("a", "", 1), f("a", "", 2), f("z", "", 5)}, nil},
		{[]manifest.File{f("\xff", "", 1), f("", "", 1), f("B", "", 1)}, nil, []string{"", "B", "\xff"}},
	} {
		if got := manifest.Diff(c.a, c.b); !slices.Equal(got, c.want) {
			t.Errorf("Diff(%v, %v): %q, want %q", c.a, c.b, got, c.want)
		}
		if got := manifest.Diff(c.b, c.a); !slices.Equal(got, c.want) {
			t.Errorf("Diff(%v, %v): %q, want %q", c.b, c.a, got, c.want)
		}
	}
}

// P18.3
func TestMemory(t *testing.T) {
	l := []manifest.File{f("b", "", 1), f("a", "x", 2)}
	was := slices.Clone(l)
	manifest.Diff(l, l[:1])
	manifest.Find(l, "a")
	manifest.Print(l)
	b := []byte(line("a", "", 1))
	got, _ := manifest.Parse(b)
	for i := range b {
		b[i] = 'Q'
	}
	if !slices.Equal(l, was) || got[0] != f("a", "", 1) {
		t.Error("an argument was changed, or an answer lies in one")
	}
}

// P18.1: what is parsed is printed as it was, whatever it is.
func TestAnyBytes(t *testing.T) {
	r := rand.New(rand.NewSource(1))
	all := rightLists()
	for range 20000 {
		b := []byte(text(all[1+r.Intn(len(all)-1)]))
		b[r.Intn(len(b))] = "\x00\n/ax0l-"[r.Intn(8)]
		l, e := manifest.Parse(b)
		if again, _ := manifest.Print(l); e == api.OK && !bytes.Equal(again, b) || e != api.OK && (l != nil || e != api.ErrForm) {
			t.Fatalf("Parse(%q): %v %d", b, l, e)
		}
	}
}
