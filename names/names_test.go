package names_test

import (
	"math/rand"
	"slices"
	"sort"
	"strings"
	"testing"

	"tramway/api"
	"tramway/names"
)

// known are paths and their files' names, made by hand.
var known = map[string]string{
	"foo/Bar_x.c": "data/foo/_bar__x.c.i",
	"a.i/.b":      "data/a.i.hg/~2eb.i",
	"aux.c":       "data/au~78.c.i",
	"aux.":        "data/au~78~2e.i",
	"a":           "data/a.i",
	"a.i":         "data/a.i.i",
	"a.d/b":       "data/a.d.hg/b.i",
	"a.hg/b":      "data/a.hg.hg/b.i",
	"a.hg.hg/b":   "data/a.hg.hg.hg/b.i",
	".i/b":        "data/~2ei.hg/b.i",
	"a.I/b":       "data/a._i/b.i",
	"a.ii/b":      "data/a.ii/b.i",
	"ai/b":        "data/ai/b.i",
	"x/a.i":       "data/x/a.i.i",
	"i/d/hg":      "data/i/d/hg.i",
	"AZaz09":      "data/_a_zaz09.i",
	"_":           "data/__.i",
	"_A_a":        "data/___a__a.i",
	"\x01\x1f":    "data/~01~1f.i",
	"\x7f~}\xff":  "data/~7f~7e}~ff.i",
	"a\\:*?\"<>|": "data/a~5c~3a~2a~3f~22~3c~3e~7c.i",
	"é":           "data/~c3~a9.i",
	" ":           "data/~20.i",
	"...":         "data/~2e.~2e.i",
	" a ":         "data/~20a~20.i",
	"a b":         "data/a b.i",
	"a. /b":       "data/a.~20/b.i",
	".a./ b":      "data/~2ea~2e/~20b.i",
	"aux":         "data/au~78.i",
	"con/prn/nul": "data/co~6e/pr~6e/nu~6c.i",
	"com1/lpt9":   "data/co~6d1/lp~749.i",
	"com1.x.y":    "data/co~6d1.x.y.i",
	"com0/com10":  "data/com0/com10.i",
	"lpt":         "data/lpt.i",
	"auxx/xaux":   "data/auxx/xaux.i",
	"Aux":         "data/_aux.i",
	"aux /x":      "data/aux~20/x.i",
	"aux_":        "data/aux__.i",
	".aux":        "data/~2eaux.i",
	"aux.i/x":     "data/au~78.i.hg/x.i",
	"!#$%&'()+,-": "data/!#$%&'()+,-.i",
	"a;=@[]^`{}x": "data/a;=@[]^`{}x.i",
}

// P17.1, P17.2
func TestKnownNames(t *testing.T) {
	for path, want := range known {
		if name, e := names.Name(path); name != want || e != api.OK || !names.Right(path) {
			t.Errorf("Name(%q): %q %d, want %q", path, name, e, want)
		}
		if got, e := names.Path(want); got != path || e != api.OK {
			t.Errorf("Path(%q): %q %d, want %q", want, got, e, path)
		}
	}
}

// P17.1
func TestWrongPaths(t *testing.T) {
	long := strings.Repeat("a", api.MaxPath+1)
	for _, path := range []string{"", "/", "/a", "a/", "a//b", ".", "..", "./a", "a/.", "a/../b", "a\x00", "\n", "a\rb", long} {
		if name, e := names.Name(path); name != "" || e != api.ErrArg || names.Right(path) {
			t.Errorf("Name(%q): %q %d", path, name, e)
		}
	}
	for path, want := range map[string]api.Errno{long[1:]: api.ErrLong, long[:248]: api.OK, long[:249]: api.ErrLong, long[:247] + "A": api.ErrLong, strings.Repeat("~", 83): api.ErrLong, strings.Repeat("~", 82): api.OK} {
		name, e := names.Name(path)
		if e != want || e != api.OK && name != "" || e == api.OK && len(name) > api.MaxPath || !names.Right(path) {
			t.Errorf("Name of %d bytes: %d bytes, %d", len(path), len(name), e)
		}
	}
}

// P17.2
func TestWrongNames(t *testing.T) {
	for _, name := range []string{"", "data/", ".i", "data/.i", "data.i", "data/a", "a.i", "/data/a.i", "Data/a.i", "data/a.I", "data/a.i ", "data/a.d", "data//a.i", "data/a/.i", "data/A.i", "data/_.i", "data/_A.i", "data/_0.i", "data/~.i", "data/~2.i",
		"data/~2E.i", "data/~zz.i", "data/~61.i", "data/~41.i", "data/~5f.i", "data/.b.i", "data/ b.i", "data/b .i", "data/b..i", "data/a/b./c.i", "data/a.i/b.i", "data/a.d/b.i", "data/a.hg/b.i", "data/.hg/b.i", "data/foo.hg/b.i", "data/aux.i", "data/au~78x.i", "data/com1.c.i",
		"data/co~6d0.i", "data/a\nb.i", "data/~00.i", "data/~0a.i", "data/~0d.i", "data/~2e.i", "data/~2e~2e.i", "data/~2e/a.i", "data/a\x7f.i", "data/a~2fb.i", "data/\xff.i", "data/:.i", "data/a~2eb.i", "data/a~20b.i", "data/au~58.i",
		"data/" + strings.Repeat("a", 249) + ".i", strings.Repeat("data/a.i", 1000)} {
		if path, e := names.Path(name); path != "" || e != api.ErrForm {
			t.Errorf("Path(%q): %q %d", name, path, e)
		}
	}
}

// anyPath is a path of parts that may be told otherwise.
func anyPath(r *rand.Rand) string {
	bits := []string{"a", "A", "_", ".", " ", "~", ".i", ".d", ".hg", "aux", "com1", "lpt", "9", "\x01", "\xff", "i", "2e", "Z", "/", "/", "-"}
	var s strings.Builder
	for range 1 + r.Intn(8) {
		s.WriteString(bits[r.Intn(len(bits))])
	}
	return s.String()
}

// P17.4: unlike paths have unlike names, and all are read as they were.
func TestAnyPaths(t *testing.T) {
	r := rand.New(rand.NewSource(1))
	seen := map[string]string{}
	for range 100000 {
		path := anyPath(r)
		name, e := names.Name(path)
		if (e == api.OK) != names.Right(path) {
			t.Fatalf("Name(%q): %d", path, e)
		}
		if e != api.OK {
			continue
		}
		if other, ok := seen[name]; ok && other != path {
			t.Fatalf("%q and %q have one name", other, path)
		}
		seen[name] = path
		if got, e := names.Path(name); got != path || e != api.OK {
			t.Fatalf("Path(%q): %q %d, want %q", name, got, e, path)
		}
		if strings.ToLower(name) != name {
			t.Fatalf("%q has great letters", name)
		}
		for _, part := range strings.Split(strings.TrimSuffix(name, ".i"), "/") {
			if ahead, _, _ := strings.Cut(part, "."); part[0] == '.' || strings.HasSuffix(part, ".") || strings.HasSuffix(part, " ") || ahead == "aux" || ahead == "com1" {
				t.Fatalf("%q of %q", name, path)
			}
		}
	}
}

// P17.2: a name that is read is the one of what it is read as.
func TestAnyNames(t *testing.T) {
	r := rand.New(rand.NewSource(2))
	for range 100000 {
		name := "data/" + anyPath(r) + ".i"
		path, e := names.Path(name)
		if again, f := names.Name(path); e == api.OK && (f != api.OK || again != name) || e != api.OK && (path != "" || e != api.ErrForm) {
			t.Fatalf("Path(%q): %q %d", name, path, e)
		}
	}
}

// P17.3
func TestListAndPrint(t *testing.T) {
	var paths []string
	for path := range known {
		paths = append(paths, path)
	}
	sort.Strings(paths)
	want := ""
	for _, path := range paths {
		want += known[path] + "\n"
	}
	if b, e := names.Print(paths); string(b) != want || e != api.OK {
		t.Errorf("%q %d", b, e)
	}
	if l, e := names.List([]byte(want)); !slices.Equal(l, paths) || e != api.OK {
		t.Errorf("%q %d", l, e)
	}
	if b, e := names.Print(nil); len(b) != 0 || e != api.OK {
		t.Errorf("none: %q %d", b, e)
	}
	if l, e := names.List(nil); len(l) != 0 || e != api.OK {
		t.Errorf("none: %q %d", l, e)
	}
	for _, l := range [][]string{{"b", "a"}, {"a", "a"}, {"a", "b", "b"}, {""}, {"a", "b\n"}, {strings.Repeat("a", 249)}} {
		if b, e := names.Print(l); b != nil || e != api.ErrForm {
			t.Errorf("%q: %q %d", l, b, e)
		}
	}
	for _, s := range []string{"\n", "data/a.i", "data/a.i\n\n", "data/a.i\ndata/a.i\n", "data/b.i\ndata/a.i\n", "data/a.i\r\n", "a\n", "data/_b.i\ndata/__.i\ndata/a.i\nx", "data/a.i\ndata/_b.i\n"} {
		if l, e := names.List([]byte(s)); l != nil || e != api.ErrForm {
			t.Errorf("%q: %q %d", s, l, e)
		}
	}
	// The paths rise, though the names don't.
	if l, e := names.List([]byte("data/_b.i\ndata/__.i\ndata/a.i\n")); !slices.Equal(l, []string{"B", "_", "a"}) || e != api.OK {
		t.Errorf("%q %d", l, e)
	}
}
