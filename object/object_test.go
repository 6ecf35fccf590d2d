package object_test

import (
	"bytes"
	"math"
	"math/rand"
	"strconv"
	"testing"

	"tramway/api"
	"tramway/object"
	"tramway/sha"
	"tramway/zlib"
)

// P9.1
func TestKinds(t *testing.T) {
	for kind, word := range map[int]string{object.Commit: "commit", object.Tree: "tree", object.Blob: "blob", object.Tag: "tag"} {
		if object.Word(kind) != word || object.Kind(word) != kind {
			t.Errorf("%d, %s", kind, word)
		}
	}
	if object.Commit != 1 || object.Tree != 2 || object.Blob != 3 || object.Tag != 4 {
		t.Error("the kinds' numbers")
	}
	for _, kind := range []int{0, 5, -1, math.MinInt, math.MaxInt} {
		if object.Word(kind) != "" {
			t.Errorf("Word(%d)", kind)
		}
	}
	for _, word := range []string{"", "Blob", "blob ", "blo", "commits"} {
		if object.Kind(word) != 0 {
			t.Errorf("Kind(%q)", word)
		}
	}
}

// P9.2
func TestId(t *testing.T) {
	for _, c := range []struct {
		kind int
		body string
		want string
	}{
		{object.Blob, "", "e69de29bb2d1d6434b8b29ae775ad8c2e48c5391"}, {object.Blob, "hello\n", "ce013625030ba8dba906f756967f9e9ca394464a"},
		{object.Tree, "", "4b825dc642cb6eb9a060e54bf8d69288fbee4904"},
	} {
		if id, e := object.Id(c.kind, []byte(c.body)); sha.Hex(id) != c.want || e != api.OK {
			t.Errorf("Id(%d, %q): %s %d", c.kind, c.body, sha.Hex(id), e)
		}
	}
	if id, _ := object.Id(object.Commit, []byte("0123456789")); id != sha.Sum([]byte("commit 10\x000123456789")) {
		t.Error("the id of a commit")
	}
	if id, _ := object.Id(object.Tag, nil); id != sha.Sum([]byte("tag 0\x00")) {
		t.Error("the id of a tag")
	}
}

// P9.2
func TestWrongObjects(t *testing.T) {
	most := make([]byte, api.MaxBody+1)
	for _, c := range []struct {
		kind int
		body []byte
		e    api.Errno
	}{
		{0, nil, api.ErrArg}, {5, nil, api.ErrArg}, {-3, most, api.ErrArg}, {3, most, api.ErrLong}, {3, most[1:], api.OK},
	} {
		id, e := object.Id(c.kind, c.body)
		if e != c.e || e != api.OK && id != (api.Id{}) {
			t.Errorf("Id of kind %d, %d bytes: %d", c.kind, len(c.body), e)
		}
		b, e := object.Loose(c.kind, c.body)
		if e != c.e || e != api.OK && b != nil {
			t.Errorf("Loose of kind %d, %d bytes: %d", c.kind, len(c.body), e)
		}
	}
}

// P9.2, P9.5
func TestLoose(t *testing.T) {
	noise := make([]byte, 3000)
	rand.New(rand.NewSource(1)).Read(noise)
	for kind := object.Commit; kind <= object.Tag; kind++ {
		for _, body := range [][]byte{nil, []byte("x"), noise, bytes.Repeat([]byte{0}, 99999)} {
			was := bytes.Clone(body)
			b, e := object.Loose(kind, body)
			want := zlib.Wrap([]byte(object.Word(kind) + " " + strconv.Itoa(len(body)) + "\x00" + string(body)))
			if !bytes.Equal(b, want) || e != api.OK {
				t.Errorf("Loose(%d, %d bytes): %d", kind, len(body), e)
			}
			copied := bytes.Clone(b)
			k, got, e := object.Open(b)
			if k != kind || !bytes.Equal(got, body) || e != api.OK {
				t.Errorf("Open(%d, %d bytes): %d %d", kind, len(body), k, e)
			}
			for i := range got {
				got[i]++
			}
			if !bytes.Equal(b, copied) || !bytes.Equal(body, was) {
				t.Error("an argument was changed")
			}
		}
	}
}

// P9.3
func TestOpenOfWrongBytes(t *testing.T) {
	for _, text := range []string{"", "blob", "blob 0", "blob\x00", "blob \x00", " 0\x00", "blob 1\x00", "blob 0\x00x", "blob 01\x00x", "blob +1\x00x",
		"blob -1\x00", "blob  1\x00x", "blob 1 \x00x", "Blob 1\x00x", "blub 1\x00x", "1\x00x", "blob 4611686018427387904\x00", "blob1\x00x", "blob 1x"} {
		if k, b, e := object.Open(zlib.Wrap([]byte(text))); k != 0 || b != nil || e != api.ErrForm {
			t.Errorf("Open(%q): %d %q %d", text, k, b, e)
		}
	}
	good, _ := object.Loose(object.Blob, []byte("x"))
	for n := range good {
		if k, b, e := object.Open(good[:n]); k != 0 || b != nil || e != api.ErrEnd {
			t.Errorf("cut at %d: %d", n, e)
		}
	}
	if _, _, e := object.Open(append(bytes.Clone(good), 0)); e != api.ErrForm {
		t.Errorf("a byte behind: %d", e)
	}
	sum := bytes.Clone(good)
	sum[len(sum)-1]++
	if _, _, e := object.Open(sum); e != api.ErrSum {
		t.Errorf("another sum: %d", e)
	}
	if _, _, e := object.Open([]byte{0, 0}); e != api.ErrForm {
		t.Errorf("another front: %d", e)
	}
}

// P9.3
func TestOpenOfLongBodies(t *testing.T) {
	for n, want := range map[int]api.Errno{api.MaxBody: api.OK, api.MaxBody + 1: api.ErrLong, api.MaxBody + 6: api.ErrLong, api.MaxBody + 7: api.ErrLong, api.MaxBody + 500: api.ErrLong} {
		b := zlib.Wrap(append([]byte("blob "+strconv.Itoa(n)+"\x00"), make([]byte, n)...))
		if k, body, e := object.Open(b); e != want || e != api.OK && (k != 0 || body != nil) {
			t.Errorf("%d bytes: %d, want %d", n, e, want)
		}
	}
	// With a byte behind the frame: the form is named ahead of the body's length, but behind the frame's own errors.
	for n, want := range map[int]api.Errno{api.MaxBody + 6: api.ErrForm, api.MaxBody + 7: api.ErrLong} {
		b := zlib.Wrap(append([]byte("blob "+strconv.Itoa(n)+"\x00"), make([]byte, n)...))
		if _, _, e := object.Open(append(b, 0)); e != want {
			t.Errorf("%d bytes, and a byte behind: %d, want %d", n, e, want)
		}
	}
}

// P9.4
func TestPath(t *testing.T) {
	id, _ := sha.Parse("ce013625030ba8dba906f756967f9e9ca394464a")
	if got := object.Path(id); got != "objects/ce/013625030ba8dba906f756967f9e9ca394464a" {
		t.Error(got)
	}
	if got := object.Path(api.Id{}); got != "objects/00/00000000000000000000000000000000000000" {
		t.Error(got)
	}
}
