package files_test

import (
	"bytes"
	"math"
	"slices"
	"strconv"
	"strings"
	"testing"

	"tramway/api"
	"tramway/files"
)

const room = 1 << 20

func reads(t *testing.T, s *files.Store, path, want string) {
	t.Helper()
	if b, e := s.Read(path); string(b) != want || e != api.OK {
		t.Errorf("%s: %q %d, want %q", path, b, e, want)
	}
}

func is(t *testing.T, what string, got, want api.Errno) {
	t.Helper()
	if got != want {
		t.Errorf("%s: %d, want %d", what, got, want)
	}
}

func lists(t *testing.T, s *files.Store, under string, want ...string) {
	t.Helper()
	if got := s.List(under); !slices.Equal(got, want) {
		t.Errorf("List(%q): %q, want %q", under, got, want)
	}
}

// P7.1
func TestNoStore(t *testing.T) {
	var s *files.Store
	is(t, "Write", s.Write("a", 0, nil), api.ErrState)
	is(t, "Cut", s.Cut("a", 0), api.ErrState)
	is(t, "Sync", s.Sync("a"), api.ErrState)
	is(t, "Rename", s.Rename("a", "b"), api.ErrState)
	is(t, "Remove", s.Remove("a"), api.ErrState)
	if b, e := s.Read("a"); b != nil || e != api.ErrNone {
		t.Error("Read of no store")
	}
	if len(s.List("")) != 0 || s.Used() != 0 {
		t.Error("List, Used of no store")
	}
	s.Arm(3)
	s.Crash(1, 2)
}

// P1: a store that New didn't make has no room.
func TestBareStore(t *testing.T) {
	s := new(files.Store)
	is(t, "Write of a byte", s.Write("a", 0, []byte("x")), api.ErrFull)
	is(t, "Write of none", s.Write("a", 0, nil), api.OK)
	s.Crash()
	lists(t, s, "", "a")
}

// P7.1, P7.2
func TestQuota(t *testing.T) {
	s := files.New(5)
	is(t, "six bytes", s.Write("a", 0, []byte("abcdef")), api.ErrFull)
	lists(t, s, "")
	is(t, "five bytes", s.Write("a", 0, []byte("abcde")), api.OK)
	is(t, "over them", s.Write("a", 0, []byte("ABCDE")), api.OK)
	is(t, "one more", s.Write("a", 1, []byte("BCDEF")), api.ErrFull)
	is(t, "elsewhere", s.Write("b", 0, []byte("x")), api.ErrFull)
	is(t, "an empty file", s.Write("b", 0, nil), api.OK)
	is(t, "cut", s.Cut("a", 4), api.OK)
	is(t, "now there is room", s.Write("b", 0, []byte("x")), api.OK)
	if s.Used() != 5 {
		t.Errorf("Used: %d", s.Used())
	}
	for _, quota := range []int{0, -1, math.MinInt} {
		is(t, "no quota", files.New(quota).Write("a", 0, []byte("x")), api.ErrFull)
		is(t, "no quota, no bytes", files.New(quota).Write("a", 0, nil), api.OK)
	}
}

// P7.2: behind a crash there may be more bytes than the quota; what doesn't grow is still written.
func TestMoreThanTheQuota(t *testing.T) {
	s := files.New(4)
	s.Write("a", 0, []byte("abcd"))
	s.Sync("a")
	s.Cut("a", 0)
	s.Write("b", 0, []byte("wxyz"))
	s.Sync("b")
	s.Crash()
	if s.Used() != 8 {
		t.Errorf("Used: %d", s.Used())
	}
	is(t, "over bytes", s.Write("a", 1, []byte("BCD")), api.OK)
	is(t, "an empty file", s.Write("c", 0, nil), api.OK)
	is(t, "beyond", s.Write("a", 4, []byte("e")), api.ErrFull)
}

// P7.2
func TestManyFiles(t *testing.T) {
	s := files.New(room)
	for i := range api.MaxFiles {
		is(t, "a file more", s.Write("d/"+strconv.Itoa(i), 0, nil), api.OK)
	}
	is(t, "one too many", s.Write("e", 0, nil), api.ErrFull)
	is(t, "one that is there", s.Write("d/7", 0, []byte("x")), api.OK)
	is(t, "another name", s.Rename("d/7", "e"), api.OK)
	is(t, "still full", s.Write("d/7", 0, nil), api.ErrFull)
	is(t, "Remove", s.Remove("e"), api.OK)
	is(t, "room again", s.Write("d/7", 0, nil), api.OK)
}

// P7.2
func TestPaths(t *testing.T) {
	long := strings.Repeat("a", api.MaxPath)
	for _, path := range []string{"a", "a/b", ".a", "a.", "...", "a/...", " ", "\x01", "\xff", "a\nb", long, long[:200] + "/" + long[:54]} {
		s := files.New(room)
		is(t, "Write "+path, s.Write(path, 0, nil), api.OK)
		s.Write("z", 0, nil)
		is(t, "Rename to "+path, s.Rename("z", path), api.OK)
		lists(t, s, "", path)
	}
	for _, path := range []string{"", "/", "/a", "a/", "a//b", ".", "..", "a/.", "./a", "a/../b", "a\x00", "\x00", long + "a", long[:200] + "/" + long[:55]} {
		s := files.New(room)
		is(t, "Write "+path, s.Write(path, 0, nil), api.ErrArg)
		s.Write("z", 0, nil)
		is(t, "Rename to "+path, s.Rename("z", path), api.ErrArg)
		lists(t, s, "", "z")
		is(t, "Cut", s.Cut(path, 0), api.ErrNone)
		is(t, "Sync", s.Sync(path), api.ErrNone)
		is(t, "Remove", s.Remove(path), api.ErrNone)
		is(t, "Rename", s.Rename(path, "b"), api.ErrNone)
	}
}

// P7.2
func TestWrite(t *testing.T) {
	s := files.New(room)
	is(t, "beyond 0 of none", s.Write("a", 1, []byte("x")), api.ErrArg)
	is(t, "below 0", s.Write("a", -1, []byte("x")), api.ErrArg)
	is(t, "far below 0", s.Write("a", math.MinInt, nil), api.ErrArg)
	is(t, "the first", s.Write("a", 0, []byte("abc")), api.OK)
	is(t, "behind", s.Write("a", 3, []byte("def")), api.OK)
	reads(t, s, "a", "abcdef")
	is(t, "within", s.Write("a", 1, []byte("BC")), api.OK)
	reads(t, s, "a", "aBCdef")
	is(t, "over the end", s.Write("a", 5, []byte("FG")), api.OK)
	reads(t, s, "a", "aBCdeFG")
	is(t, "beyond the end", s.Write("a", 8, nil), api.ErrArg)
	is(t, "far beyond", s.Write("a", math.MaxInt, []byte("x")), api.ErrArg)
	reads(t, s, "a", "aBCdeFG")
	is(t, "ErrArg ahead of ErrClash", s.Write("a/b", -1, nil), api.ErrArg)
	is(t, "ErrClash ahead of at", s.Write("a/b", 1, nil), api.ErrClash)
	is(t, "at ahead of ErrFull", files.New(0).Write("a", 1, []byte("x")), api.ErrArg)
}

// P7.2
func TestClashes(t *testing.T) {
	s := files.New(room)
	s.Write("a/b/c", 0, nil)
	for _, path := range []string{"a", "a/b", "a/b/c/d", "a/b/c/d/e"} {
		is(t, "Write "+path, s.Write(path, 0, nil), api.ErrClash)
	}
	for _, path := range []string{"a.", "a/b.", "a/c", "b"} {
		is(t, "Write "+path, s.Write(path, 0, nil), api.OK)
	}
	is(t, "Rename to a", s.Rename("b", "a"), api.ErrClash)
	is(t, "Rename below a file", s.Rename("b", "a/b/c/d"), api.ErrClash)
	lists(t, s, "", "a.", "a/b.", "a/b/c", "a/c", "b")
	is(t, "Remove", s.Remove("a/b/c"), api.OK)
	is(t, "the directory's name is free", s.Write("a/b", 0, nil), api.OK)
	is(t, "Rename within itself", s.Rename("b", "b/c/d"), api.OK)
	is(t, "and back", s.Rename("b/c/d", "b"), api.OK)
	is(t, "again", s.Write("b/c", 0, nil), api.ErrClash)
}

// P7.2
func TestCut(t *testing.T) {
	s := files.New(room)
	is(t, "none", s.Cut("a", 0), api.ErrNone)
	s.Write("a", 0, []byte("abc"))
	is(t, "below", s.Cut("a", -1), api.ErrArg)
	is(t, "above", s.Cut("a", 4), api.ErrArg)
	is(t, "as long as it is", s.Cut("a", 3), api.OK)
	is(t, "shorter", s.Cut("a", 1), api.OK)
	reads(t, s, "a", "a")
	is(t, "empty", s.Cut("a", 0), api.OK)
	reads(t, s, "a", "")
}

// P7.2
func TestRename(t *testing.T) {
	s := files.New(10)
	s.Write("a", 0, []byte("abcd"))
	s.Sync("a")
	s.Write("a", 4, []byte("e"))
	s.Write("b", 0, []byte("xyz"))
	is(t, "from none to none", s.Rename("c", ".."), api.ErrNone)
	is(t, "alike", s.Rename("a", "a"), api.OK)
	is(t, "over b", s.Rename("a", "b"), api.OK)
	lists(t, s, "", "b")
	reads(t, s, "b", "abcde")
	if s.Used() != 5 {
		t.Errorf("Used: %d", s.Used())
	}
	s.Crash()
	reads(t, s, "b", "abcd")
}

// P7.2: what is kept goes with the name, and so does what isn't kept yet.
func TestRenameTakesOpenChanges(t *testing.T) {
	s := files.New(room)
	s.Write("a", 0, []byte("ab"))
	s.Write("a", 2, []byte("cd"))
	s.Rename("a", "b")
	s.Crash(1)
	reads(t, s, "b", "ab")
	is(t, "a is gone", s.Remove("a"), api.ErrNone)
	is(t, "b goes", s.Remove("b"), api.OK)
	lists(t, s, "")
}

// P7.3
func TestReadListUsed(t *testing.T) {
	s := files.New(room)
	for _, path := range []string{"b/a", "a", "b.", "b/B", "b/a.", "c"} {
		s.Write(path, 0, []byte(path))
	}
	lists(t, s, "", "a", "b.", "b/B", "b/a", "b/a.", "c")
	lists(t, s, "b", "b.", "b/B", "b/a", "b/a.")
	lists(t, s, "b/a", "b/a", "b/a.")
	lists(t, s, "b/", "b/B", "b/a", "b/a.")
	lists(t, s, "d")
	if b, e := s.Read("b"); b != nil || e != api.ErrNone {
		t.Error("Read of a directory")
	}
	if s.Used() != 1+2+3+3+4+1 {
		t.Errorf("Used: %d", s.Used())
	}
	s.Arm(0)
	reads(t, s, "a", "a")
	lists(t, s, "c", "c")
	if s.Used() != 14 {
		t.Errorf("Used when down: %d", s.Used())
	}
}

// P7.4
func TestArm(t *testing.T) {
	s := files.New(room)
	s.Arm(2)
	is(t, "one", s.Write("a", 0, []byte("x")), api.OK)
	is(t, "one that isn't OK doesn't count", s.Cut("b", 0), api.ErrNone)
	is(t, "two", s.Rename("a", "a"), api.OK)
	is(t, "Write when down", s.Write("", 0, nil), api.ErrState)
	is(t, "Cut when down", s.Cut("b", 0), api.ErrState)
	is(t, "Sync when down", s.Sync("b"), api.ErrState)
	is(t, "Rename when down", s.Rename("b", ""), api.ErrState)
	is(t, "Remove when down", s.Remove("b"), api.ErrState)
	s.Arm(9)
	is(t, "still down", s.Sync("a"), api.ErrState)
	s.Crash(1)
	reads(t, s, "a", "x")
	for range 20 {
		is(t, "no more armed", s.Sync("a"), api.OK)
	}
	for _, n := range []int{0, -1, math.MinInt} {
		s.Arm(n)
		is(t, "at once", s.Sync("a"), api.ErrState)
		s.Crash()
	}
	s.Arm(1)
	s.Arm(3)
	for range 3 {
		is(t, "counted anew", s.Sync("a"), api.OK)
	}
	is(t, "the fourth", s.Sync("a"), api.ErrState)
	s.Crash()
	s.Arm(3)
	s.Crash()
	for range 5 {
		is(t, "a crash disarms", s.Sync("a"), api.OK)
	}
}

// P7.4
func TestCrash(t *testing.T) {
	fill := func() *files.Store {
		s := files.New(room)
		s.Write("a", 0, []byte("xy"))
		s.Sync("a")
		s.Write("a", 1, []byte("z"))
		s.Cut("a", 1)
		s.Write("b", 0, []byte("b"))
		s.Sync("b")
		s.Write("c", 0, []byte("c"))
		s.Write("c", 1, nil)
		s.Write("c", 1, []byte("d"))
		return s
	}
	for _, c := range []struct {
		keep    []int
		a, b, c string
	}{
		{nil, "xy", "b", ""}, {[]int{1}, "xz", "b", ""}, {[]int{2}, "x", "b", ""}, {[]int{-1, -1, -7}, "xy", "b", ""},
		{[]int{99, 99, 99}, "x", "b", "cd"}, {[]int{1, 5, 1}, "xz", "b", "c"}, {[]int{0, 0, 2, 7}, "xy", "b", "c"}, {[]int{0, 0, 3}, "xy", "b", "cd"},
	} {
		s := fill()
		s.Crash(c.keep...)
		reads(t, s, "a", c.a)
		reads(t, s, "b", c.b)
		reads(t, s, "c", c.c)
		if s.Used() != len(c.a+c.b+c.c) {
			t.Errorf("Used: %d", s.Used())
		}
		s.Crash()
		reads(t, s, "a", c.a)
		reads(t, s, "c", c.c)
	}
}

// P7.5
func TestMemory(t *testing.T) {
	s := files.New(room)
	b := append(make([]byte, 0, 50), "abc"...)
	s.Write("a", 0, b)
	b[0] = 'X'
	reads(t, s, "a", "abc")
	s.Crash(1)
	reads(t, s, "a", "abc")
	s.Write("a", 3, []byte("d"))
	if string(b[:4]) != "Xbc\x00" {
		t.Error("the room behind a list was written to")
	}
	got, _ := s.Read("a")
	got[1] = 'Y'
	reads(t, s, "a", "abcd")
	s.Sync("a")
	got, _ = s.Read("a")
	s.Write("a", 0, []byte("ABCD"))
	if !bytes.Equal(got, []byte("abcd")) {
		t.Error("what was read was changed")
	}
	s.Crash()
	reads(t, s, "a", "abcd")
	s.Write("a", 0, []byte("__"))
	s.Crash()
	reads(t, s, "a", "abcd")
}
