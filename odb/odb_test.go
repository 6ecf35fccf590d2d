package odb_test

import (
	"bytes"
	"math/rand"
	"slices"
	"strconv"
	"strings"
	"testing"

	"tramway/api"
	"tramway/files"
	"tramway/object"
	"tramway/odb"
	"tramway/pack"
	"tramway/sha"
)

const room = 1 << 22

type thing struct {
	kind int
	body string
}

func (x thing) id() api.Id {
	id, _ := object.Id(x.kind, []byte(x.body))
	return id
}

func things() []thing {
	l := []thing{{object.Blob, ""}, {object.Blob, "x"}, {object.Tree, ""}, {object.Commit, "x"}, {object.Tag, "y"}}
	for i := range 20 {
		l = append(l, thing{object.Blob, strings.Repeat("some line of a file\n", 10+i) + strconv.Itoa(i)})
	}
	return l
}

func put(t *testing.T, s *files.Store, front string, l ...thing) {
	t.Helper()
	for _, x := range l {
		if id, e := odb.Put(s, front, x.kind, []byte(x.body)); id != x.id() || e != api.OK {
			t.Fatalf("Put of %v: %x %d", x, id, e)
		}
	}
}

func got(t *testing.T, s *files.Store, front string, l ...thing) {
	t.Helper()
	for _, x := range l {
		kind, body, e := odb.Get(s, front, x.id())
		if kind != x.kind || string(body) != x.body || e != api.OK || !odb.Has(s, front, x.id()) {
			t.Fatalf("Get of %v: %d %q %d", x, kind, body, e)
		}
	}
}

func refused(t *testing.T, what string, s *files.Store, front string, x thing, want api.Errno) {
	t.Helper()
	kind, body, e := odb.Get(s, front, x.id())
	if kind != 0 || body != nil || e != want || odb.Has(s, front, x.id()) {
		t.Errorf("%s: %d %q %d, want %d", what, kind, body, e, want)
	}
}

func rise(l []thing) []api.Id {
	var ids []api.Id
	for _, x := range l {
		ids = append(ids, x.id())
	}
	slices.SortFunc(ids, func(a, b api.Id) int { return bytes.Compare(a[:], b[:]) })
	return slices.Compact(ids)
}

func listed(t *testing.T, s *files.Store, front string, l []thing) {
	t.Helper()
	if ids, e := odb.Ids(s, front); e != api.OK || !slices.Equal(ids, rise(l)) {
		t.Fatalf("Ids: %d of %d, %d", len(ids), len(l), e)
	}
}

// lie writes a file as it is.
func lie(s *files.Store, path string, b []byte) {
	s.Remove(path)
	s.Write(path, 0, b)
	s.Sync(path)
}

func loose(x thing) []byte {
	b, _ := object.Loose(x.kind, []byte(x.body))
	return b
}

// packOf: a pack, its index, and the digits of its name.
func packOf(l ...thing) ([]byte, []byte, string) {
	var items []pack.Item
	for _, x := range l {
		items = append(items, pack.Item{Kind: x.kind, Body: []byte(x.body)})
	}
	b, _ := pack.Small(items)
	index, _ := pack.Index(b)
	return b, index, sha.Hex(api.Id(b[len(b)-20:]))
}

// lay lays a pack and its index there under other digits.
func lay(s *files.Store, front, digits string, l ...thing) {
	b, index, hex := packOf(l...)
	if digits != "" {
		hex = digits
	}
	lie(s, front+"pack/"+hex+".pack", b)
	lie(s, front+"pack/"+hex+".idx", index)
}

// state is all that stands.
func state(s *files.Store) map[string]string {
	m := map[string]string{}
	for _, p := range s.List("") {
		b, _ := s.Read(p)
		m[p] = string(b)
	}
	return m
}

// P13.1, P13.2
func TestPutAndGet(t *testing.T) {
	for _, front := range []string{"", "git", "a/b"} {
		s := files.New(room)
		put(t, s, front, things()...)
		got(t, s, front, things()...)
		x := things()[1]
		path := object.Path(x.id())
		if front != "" {
			path = front + "/" + path
		}
		if b, e := s.Read(path); e != api.OK || !bytes.Equal(b, loose(x)) || len(s.List("")) != len(things()) {
			t.Errorf("the file %s: %d", path, e)
		}
		listed(t, s, front, things())
		refused(t, "another one", s, front, thing{3, "z"}, api.ErrNone)
		refused(t, "another front", s, front+"c", x, api.ErrNone)
	}
}

// P13.1
func TestGetOfBrokenLooseOnes(t *testing.T) {
	s := files.New(room)
	a, b := thing{3, "a"}, thing{3, "b"}
	lay(s, "", "", a)
	path := object.Path(a.id())
	lie(s, path, loose(b))
	refused(t, "another object", s, "", a, api.ErrSum)
	lie(s, path, nil)
	refused(t, "nothing", s, "", a, api.ErrEnd)
	lie(s, path, append(loose(a), 1))
	refused(t, "a byte behind", s, "", a, api.ErrForm)
	s.Remove(path)
	got(t, s, "", a)
}

// P13.1
func TestGetOfPacks(t *testing.T) {
	a, b, c := thing{3, "a"}, thing{3, "b"}, thing{1, "c"}
	one, two := strings.Repeat("1", 40), strings.Repeat("2", 40)
	s := files.New(room)
	lay(s, "g/", one, a, b, a)
	lay(s, "g/", two, b, c)
	got(t, s, "g", a, b, c)
	lie(s, "g/pack/"+strings.Repeat("0", 40)+".idx", []byte("no index"))
	lie(s, "g/pack/x.idx", nil)
	got(t, s, "g", a, b, c)
	s.Remove("g/pack/" + one + ".pack")
	refused(t, "the first index counts", s, "g", b, api.ErrNone)
	got(t, s, "g", c)
	broken, _, _ := packOf(a, b)
	broken[20] ^= 1
	lie(s, "g/pack/"+one+".pack", broken)
	refused(t, "a broken pack", s, "g", b, api.ErrSum)
	lay(s, "g/", two, c)
	other, _, _ := packOf(c, a)
	lie(s, "g/pack/"+one+".pack", other)
	refused(t, "no entry begins there", s, "g", b, api.ErrForm)
	refused(t, "another entry begins there", s, "g", a, api.ErrForm)
}

// P13.1: a place where no entry begins.
func TestWrongPlace(t *testing.T) {
	a := thing{3, "a"}
	b, index, hex := packOf(a)
	index[len(index)-41]++
	sum := sha.Sum(index[:len(index)-20])
	copy(index[len(index)-20:], sum[:])
	s := files.New(room)
	lie(s, "pack/"+hex+".pack", b)
	lie(s, "pack/"+hex+".idx", index)
	refused(t, "a place that is one too great", s, "", a, api.ErrForm)
}

// P13.1: the place that the index tells counts, of two entries with one id, too.
func TestSecondOfTwo(t *testing.T) {
	a := thing{3, "a"}
	b, index, hex := packOf(a, thing{3, "other"}, a)
	n := 3
	begins := index[8+1024+n*24 : 8+1024+n*28]
	id := a.id()
	i := bytes.Index(index[8+1024:], id[:]) / 20
	copy(begins[4*i:], bytes.Clone(begins[4*i+4:4*i+8]))
	sum := sha.Sum(index[:len(index)-20])
	copy(index[len(index)-20:], sum[:])
	s := files.New(room)
	lie(s, "pack/"+hex+".pack", b)
	lie(s, "pack/"+hex+".idx", index)
	got(t, s, "", a)
}

// P13.2
func TestErrorsOfPut(t *testing.T) {
	s := files.New(room)
	if id, e := odb.Put(s, "", 5, nil); id != (api.Id{}) || e != api.ErrArg {
		t.Errorf("no kind: %d", e)
	}
	if id, e := odb.Put(s, "", 3, make([]byte, api.MaxBody+1)); id != (api.Id{}) || e != api.ErrLong {
		t.Errorf("too long: %d", e)
	}
	if id, e := odb.Put(s, "..", 3, nil); id != (api.Id{}) || e != api.ErrArg {
		t.Errorf("no front: %d", e)
	}
	if id, e := odb.Put(files.New(3), "", 3, nil); id != (api.Id{}) || e != api.ErrFull {
		t.Errorf("no room: %d", e)
	}
	lie(s, "objects", nil)
	if id, e := odb.Put(s, "", 3, nil); id != (api.Id{}) || e != api.ErrClash {
		t.Errorf("no directory: %d", e)
	}
	if id, e := odb.Put(nil, "", 3, nil); id != (api.Id{}) || e != api.ErrState {
		t.Errorf("no store: %d", e)
	}
}

// P13.2: nothing is written, if it is there; a broken one is laid down anew.
func TestPutAgain(t *testing.T) {
	s := files.New(room)
	put(t, s, "", things()...)
	s.Arm(0)
	put(t, s, "", things()...)
	s.Crash()
	x := things()[3]
	lie(s, object.Path(x.id()), []byte("broken"))
	put(t, s, "", x)
	got(t, s, "", things()...)
	odb.Pack(s, "")
	s.Arm(0)
	put(t, s, "", things()...)
}

// P13.3
func TestIds(t *testing.T) {
	s := files.New(room)
	l := things()
	put(t, s, "g", l[:7]...)
	lay(s, "g/", "", l[5:12]...)
	lay(s, "g/", "", l[9:]...)
	lie(s, "g/pack/readme", nil)
	lie(s, "g/pack/x.idx", []byte("no index"))
	lie(s, "g/pack/"+strings.Repeat("A", 40)+".idx", []byte("no index"))
	lie(s, "g/pack/"+strings.Repeat("a", 40)+".pack", []byte("no pack"))
	lie(s, "g/pack/"+strings.Repeat("a", 40)+".idx.idx", []byte("no index"))
	lie(s, "g/other", nil)
	lie(s, "objects/x", nil)
	listed(t, s, "g", l)
	listed(t, files.New(0), "", nil)
	listed(t, nil, "", nil)
	for _, name := range []string{"objects/x", "objects/aa/" + strings.Repeat("a", 37), "objects/aa/" + strings.Repeat("a", 39), "objects/aA/" + strings.Repeat("a", 38), "objects/a/a" + strings.Repeat("a", 38),
		"objects/aa/" + strings.Repeat("a", 37) + "/a", "pack/" + strings.Repeat("b", 40) + ".idx"} {
		lie(s, "g/"+name, []byte("x"))
		if ids, e := odb.Ids(s, "g"); ids != nil || e != api.ErrForm {
			t.Errorf("%s: %d", name, e)
		}
		if e := odb.Pack(s, "g"); e != api.ErrForm {
			t.Errorf("%s, Pack: %d", name, e)
		}
		s.Remove("g/" + name)
	}
	listed(t, s, "g", l)
}

// stock fills a store: loose ones, packed ones, and files that are none of both.
func stock(t *testing.T) *files.Store {
	s := files.New(room)
	l := things()
	put(t, s, "g", l[:9]...)
	lay(s, "g/", "", l[5:12]...)
	lay(s, "g/", strings.Repeat("f", 40), l[9:]...)
	// An index without its pack, of what is loose; and a pack without its index.
	_, index, _ := packOf(l[:3]...)
	lie(s, "g/pack/"+strings.Repeat("0", 40)+".idx", index)
	lie(s, "g/pack/"+strings.Repeat("7", 40)+".pack", []byte("x"))
	lie(s, "g/pack/readme", []byte("r"))
	lie(s, "g/tmp", bytes.Repeat([]byte("t"), 100000))
	return s
}

// P13.4
func TestPack(t *testing.T) {
	s := stock(t)
	if e := odb.Pack(s, "g"); e != api.OK {
		t.Fatal(e)
	}
	got(t, s, "g", things()...)
	listed(t, s, "g", things())
	l := s.List("")
	if len(l) != 3 || !strings.HasSuffix(l[0], ".idx") || strings.TrimSuffix(l[0], ".idx")+".pack" != l[1] || l[2] != "g/pack/readme" {
		t.Fatalf("%q", l)
	}
	b, _ := s.Read(l[1])
	index, _ := s.Read(l[0])
	want, e := pack.Index(b)
	if e != api.OK || !bytes.Equal(index, want) || l[1] != "g/pack/"+sha.Hex(api.Id(b[len(b)-20:]))+".pack" {
		t.Errorf("the pack: %d", e)
	}
	put(t, s, "g", thing{3, "one more"})
	if e := odb.Pack(s, "g"); e != api.OK {
		t.Fatal(e)
	}
	s.Crash()
	got(t, s, "g", append(things(), thing{3, "one more"})...)
	if l := s.List(""); len(l) != 3 {
		t.Errorf("%q", l)
	}
}

// P13.4
func TestErrorsOfPack(t *testing.T) {
	s := files.New(room)
	if e := odb.Pack(s, ""); e != api.OK || len(s.List("")) != 0 {
		t.Errorf("no objects: %d", e)
	}
	l := things()
	put(t, s, "", l...)
	was := state(s)
	path := object.Path(l[4].id())
	lie(s, path, loose(l[5]))
	if e := odb.Pack(s, ""); e != api.ErrSum {
		t.Errorf("a broken object: %d", e)
	}
	lie(s, path, []byte(was[path]))
	for p, b := range state(s) {
		if was[p] != b {
			t.Errorf("%s was changed", p)
		}
	}
	full := files.New(s.Used() + 10)
	put(t, full, "", l...)
	if e := odb.Pack(full, ""); e != api.ErrFull {
		t.Errorf("no room: %d", e)
	}
	got(t, full, "", l...)
}

// P13.4: more objects than a pack may have.
func TestTooManyToPack(t *testing.T) {
	s := files.New(room)
	var one, two []thing
	for i := range api.MaxItems {
		one = append(one, thing{object.Blob, strconv.Itoa(i)})
	}
	two = append(two, thing{object.Blob, "more"})
	lay(s, "", "", one...)
	lay(s, "", "", two...)
	was := state(s)
	if e := odb.Pack(s, ""); e != api.ErrLong {
		t.Errorf("%d", e)
	}
	if now := state(s); len(now) != len(was) {
		t.Error("files were changed")
	}
	two[0] = one[7]
	s = files.New(room)
	lay(s, "", "", one...)
	lay(s, "", "", two...)
	if e := odb.Pack(s, ""); e != api.OK || len(s.List("")) != 2 {
		t.Errorf("just as many as may be: %d", e)
	}
	got(t, s, "", one[0], one[7], one[9999])
}

// P13.4: whenever the power goes, each id is told as it was, ahead of the crash and behind it.
func TestPackInterrupted(t *testing.T) {
	r := rand.New(rand.NewSource(1))
	for n := 0; ; n++ {
		s := stock(t)
		s.Arm(n)
		e := odb.Pack(s, "g")
		got(t, s, "g", things()...)
		s.Crash(r.Intn(3), r.Intn(3), r.Intn(3), r.Intn(3))
		got(t, s, "g", things()...)
		if f := odb.Pack(s, "g"); f != api.OK {
			t.Fatalf("again: %d", f)
		}
		got(t, s, "g", things()...)
		if e == api.OK {
			if n < 15 {
				t.Errorf("%d changes", n)
			}
			return
		}
		if e != api.ErrState {
			t.Fatalf("%d changes: %d", n, e)
		}
	}
}

// P13.4, P13.5: a pack that lies there just so, but isn't synced, is there behind a crash.
func TestPackThatIsThere(t *testing.T) {
	s := files.New(room)
	put(t, s, "", things()...)
	odb.Pack(s, "")
	other := files.New(room)
	put(t, other, "", things()...)
	for p, b := range state(s) {
		other.Write(p, 0, []byte(b))
	}
	if e := odb.Pack(other, ""); e != api.OK {
		t.Fatal(e)
	}
	other.Crash()
	got(t, other, "", things()...)
}

// P13.4: a broken pack of the new one's name is laid down anew.
func TestBrokenPackIsReplaced(t *testing.T) {
	s := files.New(room)
	put(t, s, "", things()...)
	odb.Pack(s, "")
	other := files.New(room)
	put(t, other, "", things()...)
	for p, b := range state(s) {
		if strings.HasSuffix(p, ".pack") {
			lie(other, p, []byte(b[1:]))
		}
	}
	if e := odb.Pack(other, ""); e != api.OK {
		t.Fatal(e)
	}
	got(t, other, "", things()...)
}

// P13.5: behind any crash what Put said to be there is got.
func TestPutInterrupted(t *testing.T) {
	for n := range 30 {
		s := files.New(room)
		s.Arm(n)
		var there []thing
		for _, x := range things()[:6] {
			if _, e := odb.Put(s, "g", x.kind, []byte(x.body)); e == api.OK {
				there = append(there, x)
			}
		}
		s.Crash(n%3, n%2, 0, 1)
		got(t, s, "g", there...)
		if len(there) != min(n/4, 6) {
			t.Errorf("%d changes: %d objects", n, len(there))
		}
		put(t, s, "g", things()...)
		got(t, s, "g", things()...)
	}
}

// P13.5
func TestMemory(t *testing.T) {
	s := files.New(room)
	body := []byte("body")
	id, _ := odb.Put(s, "", 3, body)
	body[0] = 'B'
	_, one, _ := odb.Get(s, "", id)
	one[0] = 'X'
	odb.Pack(s, "")
	_, two, _ := odb.Get(s, "", id)
	two[1] = 'Y'
	got(t, s, "", thing{3, "body"})
}
