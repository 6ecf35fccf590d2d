package tree_test

import (
	"bytes"
	"math/rand"
	"slices"
	"strings"
	"testing"

	"tramway/api"
	"tramway/tree"
)

const (
	dir  = 0o40000
	file = 0o100644
)

// e: an entry whose id hangs on its name.
func e(mode int, name string) tree.Entry {
	id := api.Id{19: byte(len(name))}
	copy(id[:], name)
	return tree.Entry{Mode: mode, Name: name, Id: id}
}

func id(x tree.Entry) string { return string(x.Id[:]) }

var long = strings.Repeat("n", api.MaxPath)

// rightLists: those that a tree may have.
func rightLists() [][]tree.Entry {
	return [][]tree.Entry{
		nil, {e(file, "a")}, {e(file, "a.c"), e(dir, "a")}, {e(file, "a"), e(file, "a.c")}, {e(dir, "a"), e(file, "a0")},
		{e(0o100755, "b"), e(0o120000, "c"), e(0o160000, "d"), e(dir, "e")}, {e(file, long)}, {e(file, "..."), e(file, ".a"), e(file, "a.")},
		{e(file, "\n"), e(file, " "), e(file, "A"), e(file, "\xff")}, {e(0o160000, "a"), e(file, "a.c")}, {e(file, "x y")},
	}
}

// wrongLists: each has one thing that may not be.
func wrongLists() [][]tree.Entry {
	return [][]tree.Entry{
		{e(file, "")}, {e(file, ".")}, {e(file, "..")}, {e(dir, "a/b")}, {e(file, "a\x00")}, {e(file, long+"n")}, {e(0, "a")}, {e(0o100664, "a")},
		{e(-1, "a")}, {e(40000, "a")}, {e(0o100600, "a")}, {e(file, "b"), e(file, "a")}, {e(file, "a"), e(file, "a")}, {e(dir, "a"), e(file, "a.c")},
		{e(file, "a"), e(dir, "a")}, {e(file, "a"), e(file, "a.c"), e(dir, "a")}, {e(dir, "a"), e(dir, "a")},
	}
}

// P10.1
func TestPrint(t *testing.T) {
	l := []tree.Entry{e(file, "a.c"), e(dir, "a"), e(0o100755, "b"), e(0o120000, "c"), e(0o160000, "d")}
	want := "100644 a.c\x00" + id(l[0]) + "40000 a\x00" + id(l[1]) + "100755 b\x00" + id(l[2]) + "120000 c\x00" + id(l[3]) + "160000 d\x00" + id(l[4])
	if b, no := tree.Print(l); string(b) != want || no != api.OK {
		t.Errorf("%q %d", b, no)
	}
	if got, no := tree.Parse([]byte(want)); !slices.Equal(got, l) || no != api.OK {
		t.Errorf("%v %d", got, no)
	}
	if b, no := tree.Print(nil); len(b) != 0 || no != api.OK {
		t.Error("no entries")
	}
}

// P10.1, P10.2
func TestRight(t *testing.T) {
	for _, l := range rightLists() {
		if _, no := tree.Print(l); no != api.OK || !tree.Right(l) {
			t.Errorf("%v: %d", l, no)
		}
	}
	for _, l := range wrongLists() {
		if b, no := tree.Print(l); b != nil || no != api.ErrForm || tree.Right(l) {
			t.Errorf("%v: %d", l, no)
		}
		if got, no := tree.Parse(plain(l)); got != nil || no != api.ErrForm {
			t.Errorf("the body of %v: %d", l, no)
		}
	}
}

// plain is a list's body, whether it is right or not.
func plain(l []tree.Entry) []byte {
	var b bytes.Buffer
	for _, x := range l {
		digits := ""
		for n := uint(x.Mode); n > 0; n /= 8 {
			digits = string(rune('0'+n%8)) + digits
		}
		b.WriteString(digits + " " + x.Name + "\x00" + id(x))
	}
	return b.Bytes()
}

// P10.1
func TestParseOfWrongBodies(t *testing.T) {
	good := "100644 a\x00" + strings.Repeat("i", 20)
	for _, s := range []string{"x", " ", "\x00", "100644 a", good[:len(good)-1], good + "x", good + "100644 ", "0" + good, " " + good, "100644  a\x00" + good[9:] + "x",
		"40000\x00" + good, "040000 a\x00" + good[9:], "644 a\x00" + good[9:], "100644\x00 a" + good[9:], "1100644 a\x00" + good[9:], good + good} {
		if l, no := tree.Parse([]byte(s)); l != nil || no != api.ErrForm {
			t.Errorf("%q: %v %d", s, l, no)
		}
	}
}

// P10.2
func TestSort(t *testing.T) {
	got := tree.Sort([]tree.Entry{e(dir, "a"), e(file, "b"), e(file, "a0"), e(file, "a.c"), e(file, "a")})
	want := []tree.Entry{e(file, "a"), e(file, "a.c"), e(dir, "a"), e(file, "a0"), e(file, "b")}
	if !slices.Equal(got, want) {
		t.Errorf("%v", got)
	}
	if len(tree.Sort(nil)) != 0 {
		t.Error("no entries")
	}
}

// P10.2: those of which neither stands ahead stay as they stood.
func TestSortIsSteady(t *testing.T) {
	r := rand.New(rand.NewSource(1))
	var l []tree.Entry
	for i := range 500 {
		x := e([]int{dir, file, 0o100755, 7}[r.Intn(4)], []string{"a", "a/", "b", "", "a."}[r.Intn(5)])
		x.Id[19] = byte(i)
		x.Id[18] = byte(i >> 8)
		l = append(l, x)
	}
	was := slices.Clone(l)
	got := tree.Sort(l)
	key := func(x tree.Entry) string {
		if x.Mode == dir {
			return x.Name + "/"
		}
		return x.Name
	}
	for i := 1; i < len(got); i++ {
		a, b := got[i-1], got[i]
		if key(a) > key(b) || key(a) == key(b) && bytes.Compare(a.Id[18:], b.Id[18:]) >= 0 {
			t.Fatalf("%v ahead of %v", a, b)
		}
	}
	if !slices.Equal(l, was) {
		t.Error("the list was changed")
	}
}

// P10.3
func TestThereAndBack(t *testing.T) {
	for _, l := range rightLists() {
		b, _ := tree.Print(l)
		copied := bytes.Clone(b)
		got, no := tree.Parse(b)
		if !slices.Equal(got, l) || no != api.OK {
			t.Errorf("%v: %v %d", l, got, no)
		}
		again, no := tree.Print(got)
		if !bytes.Equal(again, b) || no != api.OK {
			t.Errorf("%v: % x", l, again)
		}
		for i := range got {
			got[i] = tree.Entry{}
		}
		for i := range again {
			again[i] = 0
		}
		if !bytes.Equal(b, copied) {
			t.Error("the body was changed")
		}
	}
}

// P10.3: what is parsed is printed as it was, whatever the body is.
func TestAnyBody(t *testing.T) {
	r := rand.New(rand.NewSource(2))
	for range 20000 {
		l := rightLists()[r.Intn(len(rightLists()))]
		b, _ := tree.Print(l)
		if len(b) > 0 {
			b[r.Intn(min(len(b), 60))] = "0123456 \x00/a."[r.Intn(12)]
		}
		got, no := tree.Parse(b)
		again, _ := tree.Print(got)
		if no == api.OK && !bytes.Equal(again, b) || no != api.OK && (no != api.ErrForm || got != nil) {
			t.Fatalf("%q: %v %d", b, got, no)
		}
	}
}
