package pack_test

import (
	"bytes"
	"hash/crc32"
	"math/rand"
	"reflect"
	"sort"
	"strings"
	"testing"

	"tramway/api"
	"tramway/delta"
	"tramway/nums"
	"tramway/object"
	"tramway/pack"
	"tramway/sha"
	"tramway/zlib"
)

func noise(n int, seed int64) []byte {
	b := make([]byte, n)
	rand.New(rand.NewSource(seed)).Read(b)
	return b
}

// samples are lists of objects.
func samples() [][]pack.Item {
	var alike []pack.Item
	text := []byte(strings.Repeat("a line of text, ", 40))
	for i := range 30 {
		body := bytes.Clone(text)
		body[i*7] = '!'
		alike = append(alike, pack.Item{Kind: 1 + i%4, Body: body})
	}
	return [][]pack.Item{
		nil, {{Kind: object.Blob, Body: []byte("hello\n")}}, {{Kind: object.Tree}, {Kind: object.Tag, Body: []byte("t")}, {Kind: object.Commit, Body: noise(5000, 1)}, {Kind: object.Tree}},
		alike, {{Kind: object.Blob, Body: text}, {Kind: object.Blob, Body: text}, {Kind: object.Tree, Body: text}}, {{Kind: 3, Body: noise(15, 2)}, {Kind: 3, Body: noise(16, 2)}, {Kind: 3, Body: make([]byte, 1<<20)}},
	}
}

func same(a, b []pack.Item) bool {
	if len(a) != len(b) {
		return false
	}
	for i := range a {
		if a[i].Kind != b[i].Kind || !bytes.Equal(a[i].Body, b[i].Body) {
			return false
		}
	}
	return true
}

// raw: a pack of entries as they are.
func raw(n int, entries ...[]byte) []byte {
	b := append([]byte("PACK\x00\x00\x00\x02"), nums.Be(uint64(n), 4)...)
	b = append(b, bytes.Join(entries, nil)...)
	sum := sha.Sum(b)
	return append(b, sum[:]...)
}

// one: an entry of that kind and size, with what stands ahead of the frame.
func one(kind, size int, ahead []byte, body string) []byte {
	b := append(nums.Head(kind, size), ahead...)
	return append(b, zlib.Wrap([]byte(body))...)
}

func blob(body string) []byte { return one(object.Blob, len(body), nil, body) }

func idOf(kind int, body string) []byte {
	id, _ := object.Id(kind, []byte(body))
	return id[:]
}

// P12.2
func TestWrite(t *testing.T) {
	b, e := pack.Write(nil)
	if sum := b[len(b)-20:]; e != api.OK || sha.Hex(api.Id(sum)) != "029d08823bd8a8eab510ad6ac75c823cfd3ed31e" || string(b[:12]) != "PACK\x00\x00\x00\x02\x00\x00\x00\x00" {
		t.Errorf("no objects: % x %d", b, e)
	}
	for i, l := range samples() {
		var entries [][]byte
		for _, x := range l {
			entries = append(entries, one(x.Kind, len(x.Body), nil, string(x.Body)))
		}
		if b, e := pack.Write(l); e != api.OK || !bytes.Equal(b, raw(len(l), entries...)) {
			t.Errorf("sample %d: %d", i, e)
		}
	}
}

// P12.2
func TestWriteOfWrongObjects(t *testing.T) {
	long := make([]byte, api.MaxBody+1)
	for _, c := range []struct {
		l []pack.Item
		e api.Errno
	}{
		{[]pack.Item{{Kind: 0}}, api.ErrArg}, {[]pack.Item{{Kind: 3}, {Kind: 5}}, api.ErrArg}, {[]pack.Item{{Kind: -1, Body: long}}, api.ErrArg}, {[]pack.Item{{Kind: 3, Body: long}, {Kind: 6}}, api.ErrArg},
		{append(make([]pack.Item, api.MaxItems), pack.Item{Kind: 1}), api.ErrArg}, {many(api.MaxItems + 1), api.ErrLong}, {[]pack.Item{{Kind: 3, Body: long}}, api.ErrLong},
	} {
		for _, f := range []func([]pack.Item) ([]byte, api.Errno){pack.Write, pack.Small} {
			if b, e := f(c.l); b != nil || e != c.e {
				t.Errorf("%d objects: %d, want %d", len(c.l), e, c.e)
			}
		}
	}
}

func many(n int) []pack.Item {
	l := make([]pack.Item, n)
	for i := range l {
		l[i] = pack.Item{Kind: object.Blob, Body: nums.Be(uint64(i), 2)}
	}
	return l
}

// P12.1, P12.2
func TestReadOfWhatWasWritten(t *testing.T) {
	for i, l := range append(samples(), many(api.MaxItems)) {
		b, _ := pack.Write(l)
		if got, e := pack.Read(b); e != api.OK || !same(got, l) {
			t.Errorf("sample %d: %d", i, e)
		}
		s, e := pack.Small(l)
		if e != api.OK || len(s) > len(b) {
			t.Errorf("sample %d: %d bytes instead of %d, %d", i, len(s), len(b), e)
		}
		if got, e := pack.Read(s); e != api.OK || !same(got, l) {
			t.Errorf("sample %d, small: %d", i, e)
		}
		if i == 3 && len(s) > len(b)*9/10 {
			t.Errorf("%d bytes instead of %d: objects that are alike should go by one another", len(s), len(b))
		}
		if again, _ := pack.Small(l); !bytes.Equal(again, s) {
			t.Errorf("sample %d: another answer to the same question", i)
		}
	}
}

// P12.1, P12.2: a body that is just as long as may be.
func TestLongBody(t *testing.T) {
	l := []pack.Item{{Kind: object.Blob, Body: make([]byte, api.MaxBody)}}
	b, e := pack.Write(l)
	if e != api.OK {
		t.Fatal(e)
	}
	if got, e := pack.Read(b); e != api.OK || !same(got, l) {
		t.Error(e)
	}
}

// P12.1
func TestFronts(t *testing.T) {
	good := raw(1, blob("x"))
	change := func(at int, x byte) []byte {
		b := bytes.Clone(good)
		b[at] = x
		return b
	}
	for _, c := range []struct {
		name string
		b    []byte
		e    api.Errno
	}{
		{"nil", nil, api.ErrEnd}, {"31 bytes", good[:31], api.ErrEnd}, {"31 other bytes", make([]byte, 31), api.ErrEnd}, {"32 other bytes", make([]byte, 32), api.ErrForm},
		{"pACK", change(0, 'p'), api.ErrForm}, {"the version 3", change(7, 3), api.ErrForm}, {"a great version", change(4, 1), api.ErrForm}, {"too many", change(10, 0x27), api.ErrSum},
		{"10000", append(change(10, 0x27)[:11], change(11, 0x10)[11:]...), api.ErrSum}, {"10001", raw(10001, blob("x")), api.ErrLong}, {"far too many", change(8, 0xff), api.ErrLong},
		{"another byte", change(13, 0), api.ErrSum}, {"another sum", change(len(good)-1, good[len(good)-1]^1), api.ErrSum}, {"a byte more", append(bytes.Clone(good), 0), api.ErrSum},
	} {
		if l, e := pack.Read(c.b); l != nil || e != c.e {
			t.Errorf("%s: %d, want %d", c.name, e, c.e)
		}
		if l, e := pack.Index(c.b); l != nil || e != c.e {
			t.Errorf("%s, Index: %d, want %d", c.name, e, c.e)
		}
	}
}

// P12.1
func TestEntries(t *testing.T) {
	abc := blob("abc")
	d := string(delta.Make([]byte("abc"), []byte("abcd")))
	far := nums.Ofs(len(abc))
	broken := append(nums.Head(3, 1), zlib.Wrap([]byte("x"))...)
	broken[len(broken)-1]++
	short := "\x03\x04\x90"
	for _, c := range []struct {
		name string
		b    []byte
		e    api.Errno
		want []pack.Item
	}{
		{"none", raw(0), api.OK, nil},
		{"one too few", raw(1), api.ErrEnd, nil},
		{"one too many", raw(0, abc), api.ErrForm, nil},
		{"a byte behind", raw(1, abc, []byte{0}), api.ErrForm, nil},
		{"a head that isn't there", raw(2, abc), api.ErrEnd, nil},
		{"a head that ends", raw(1, []byte{0xb0}), api.ErrEnd, nil},
		{"a head that is too long", raw(1, append([]byte{0xb0}, bytes.Repeat([]byte{0xff}, 12)...)), api.ErrLong, nil},
		{"too great", raw(1, one(3, api.MaxBody+1, nil, "x")), api.ErrLong, nil},
		{"too great, of no kind", raw(1, one(5, api.MaxBody+1, nil, "x")), api.ErrLong, nil},
		{"the kind 0", raw(1, one(0, 1, nil, "x")), api.ErrForm, nil},
		{"the kind 5", raw(1, one(5, 1, nil, "x")), api.ErrForm, nil},
		{"a body too long", raw(1, one(3, 1, nil, "xy")), api.ErrLong, nil},
		{"a body too short", raw(1, one(3, 3, nil, "xy")), api.ErrForm, nil},
		{"a frame with another sum", raw(1, broken), api.ErrSum, nil},
		{"a frame that ends", raw(1, abc[:len(abc)-1]), api.ErrEnd, nil},
		{"by place", raw(2, abc, one(6, len(d), far, d)), api.OK, []pack.Item{{Kind: 3, Body: []byte("abc")}, {Kind: 3, Body: []byte("abcd")}}},
		{"by id", raw(2, abc, one(7, len(d), idOf(3, "abc"), d)), api.OK, []pack.Item{{Kind: 3, Body: []byte("abc")}, {Kind: 3, Body: []byte("abcd")}}},
		{"a place that isn't told", raw(2, abc, []byte{0x60}), api.ErrEnd, nil},
		{"a place too far", raw(2, abc, append([]byte{0x60}, bytes.Repeat([]byte{0xff}, 20)...)), api.ErrLong, nil},
		{"no entry begins there", raw(2, abc, one(6, len(d), nums.Ofs(len(abc)-1), d)), api.ErrForm, nil},
		{"ahead of all", raw(2, abc, one(6, len(d), nums.Ofs(len(abc)+1), d)), api.ErrForm, nil},
		{"the front", raw(2, abc, one(6, len(d), nums.Ofs(len(abc)+12), d)), api.ErrForm, nil},
		{"itself", raw(2, abc, one(6, len(d), nums.Ofs(0), d)), api.ErrForm, nil},
		{"an id that isn't there", raw(2, abc, append([]byte{0x70}, idOf(3, "abc")[:19]...)), api.ErrEnd, nil},
		{"an id that none has, and no more", raw(2, abc, append([]byte{0x70}, idOf(3, "abd")...)), api.ErrNone, nil},
		{"an id that none has", raw(2, abc, one(7, len(d), idOf(3, "abd"), d)), api.ErrNone, nil},
		{"an id of another kind", raw(2, abc, one(7, len(d), idOf(2, "abc"), d)), api.ErrNone, nil},
		{"an id that comes later", raw(2, one(7, len(d), idOf(3, "abc"), d), abc), api.ErrNone, nil},
		{"a delta of another base", raw(2, blob("abcdef"), one(6, len(d), nums.Ofs(len(blob("abcdef"))), d)), api.ErrForm, nil},
		{"a delta that ends", raw(2, abc, one(6, len(short), far, short)), api.ErrEnd, nil},
		{"a delta to too much", raw(2, abc, one(6, 5, far, "\x03\x81\x80\x80\x08")), api.ErrLong, nil},
		{"a delta's frame too long", raw(2, abc, one(6, len(d)-1, far, d)), api.ErrLong, nil},
		{"a delta's frame too short", raw(2, abc, one(6, len(d)+1, far, d)), api.ErrForm, nil},
		{"the first fault ends it", raw(2, one(5, 1, nil, "x"), []byte{0xb0}), api.ErrForm, nil},
	} {
		if l, e := pack.Read(c.b); e != c.e || !same(l, c.want) {
			t.Errorf("%s: %v %d, want %d", c.name, l, e, c.e)
		}
		if b, e := pack.Index(c.b); e != c.e || e != api.OK && b != nil {
			t.Errorf("%s, Index: %d, want %d", c.name, e, c.e)
		}
	}
}

// P12.1: deltas of deltas have the kind of the first.
func TestChains(t *testing.T) {
	body := "tree of a kind, of more than some bytes"
	entries := [][]byte{one(object.Tree, len(body), nil, body)}
	want := []pack.Item{{Kind: object.Tree, Body: []byte(body)}}
	for i := range 50 {
		next := body + string(rune('a'+i%26))
		d := string(delta.Make([]byte(body), []byte(next)))
		if i%2 == 0 {
			entries = append(entries, one(6, len(d), nums.Ofs(len(entries[i])), d))
		} else {
			entries = append(entries, one(7, len(d), idOf(object.Tree, body), d))
		}
		want = append(want, pack.Item{Kind: object.Tree, Body: []byte(next)})
		body = next
	}
	if l, e := pack.Read(raw(len(entries), entries...)); e != api.OK || !same(l, want) {
		t.Errorf("%d", e)
	}
}

// place is an entry of a pack as the test knows it.
type place struct {
	id    []byte
	begin int
	entry []byte
}

// P12.3
func TestIndex(t *testing.T) {
	l := append(many(300), pack.Item{Kind: 3, Body: []byte("twice")}, pack.Item{Kind: 1, Body: []byte("other")}, pack.Item{Kind: 3, Body: []byte("twice")})
	b, _ := pack.Write(l)
	var places []place
	at := 12
	for _, x := range l {
		entry := one(x.Kind, len(x.Body), nil, string(x.Body))
		places = append(places, place{idOf(x.Kind, string(x.Body)), at, entry})
		at += len(entry)
	}
	sort.SliceStable(places, func(i, j int) bool { return bytes.Compare(places[i].id, places[j].id) < 0 })
	want := []byte("\xff\x74\x4f\x63\x00\x00\x00\x02")
	for x := range 256 {
		n := 0
		for _, p := range places {
			if int(p.id[0]) <= x {
				n++
			}
		}
		want = append(want, nums.Be(uint64(n), 4)...)
	}
	for _, p := range places {
		want = append(want, p.id...)
	}
	for _, p := range places {
		want = append(want, nums.Be(uint64(crc32.ChecksumIEEE(p.entry)), 4)...)
	}
	for _, p := range places {
		want = append(want, nums.Be(uint64(p.begin), 4)...)
	}
	want = append(want, b[len(b)-20:]...)
	sum := sha.Sum(want)
	want = append(want, sum[:]...)
	got, e := pack.Index(b)
	if e != api.OK || !bytes.Equal(got, want) {
		t.Fatalf("Index: %d", e)
	}
	for i, p := range places {
		if i > 0 && bytes.Equal(places[i-1].id, p.id) {
			continue
		}
		if n, e := pack.Find(got, api.Id(p.id)); n != p.begin || e != api.OK {
			t.Errorf("Find of %x: %d %d", p.id, n, e)
		}
	}
	for _, id := range []api.Id{{}, {5}, {255, 255}, sha.Sum()} {
		if n, e := pack.Find(got, id); n != 0 || e != api.ErrNone {
			t.Errorf("Find of %x: %d %d", id, n, e)
		}
	}
}

// P12.3: deltas' entries, too.
func TestIndexOfSmall(t *testing.T) {
	for i, l := range samples() {
		b, _ := pack.Small(l)
		index, e := pack.Index(b)
		if e != api.OK {
			t.Fatalf("sample %d: %d", i, e)
		}
		for _, x := range l {
			if n, e := pack.Find(index, api.Id(idOf(x.Kind, string(x.Body)))); e != api.OK || n < 12 || n >= len(b)-20 {
				t.Errorf("sample %d: %d %d", i, n, e)
			}
		}
	}
}

// summed: b with the right sum in place of its last 20 bytes.
func summed(b []byte) []byte {
	sum := sha.Sum(b[:len(b)-20])
	return append(b[:len(b)-20:len(b)-20], sum[:]...)
}

// byHand is an index of ids with these first bytes, rising, and second bytes 1, 2 and so on.
func byHand(first ...byte) []byte {
	b := []byte("\xff\x74\x4f\x63\x00\x00\x00\x02")
	for x := range 256 {
		n := 0
		for _, f := range first {
			if int(f) <= x {
				n++
			}
		}
		b = append(b, nums.Be(uint64(n), 4)...)
	}
	for i, f := range first {
		id := api.Id{f, byte(i + 1)}
		b = append(b, id[:]...)
	}
	return summed(append(b, make([]byte, 8*len(first)+40)...))
}

// P12.3
func TestFindInWrongIndexes(t *testing.T) {
	b, _ := pack.Write(many(3))
	good, _ := pack.Index(b)
	change := func(at int, x byte) []byte {
		c := bytes.Clone(good)
		c[at] = x
		return summed(c)
	}
	swapped := bytes.Clone(good)
	copy(swapped[8+1024:], good[8+1024+20:8+1024+40])
	copy(swapped[8+1024+20:], good[8+1024:8+1024+20])
	empty, _ := pack.Write(nil)
	none, _ := pack.Index(empty)
	for name, c := range map[string][]byte{
		"nil": nil, "short": good[:100], "another mark": change(0, 0), "the version 1": change(7, 1), "more than there are": change(8+1023, 4), "fewer than there are": change(8+1023, 2),
		"a great number": change(8+1020, 255), "numbers that fall": change(8+3, 3), "numbers that rise too early": change(8+4*128+3, good[8+4*128+3]^2), "another first byte": change(8+1024, good[8+1024]^1),
		"ids that fall": summed(swapped), "another sum": append(bytes.Clone(good[:len(good)-1]), good[len(good)-1]^1), "a byte more": append(bytes.Clone(good), 0), "cut": summed(bytes.Clone(good[:len(good)-1])),
		"a great number among others": change(8+4*100, 255),
		"a number ahead in none":      func() []byte { c := bytes.Clone(none); c[8+3] = 1; return summed(c) }(),
	} {
		for _, id := range []api.Id{{}, api.Id(idOf(3, "\x00\x00"))} {
			if n, e := pack.Find(c, id); n != 0 || e != api.ErrForm {
				t.Errorf("%s: %d %d", name, n, e)
			}
		}
	}
	if _, e := pack.Find(byHand(5, 5, 5), api.Id{5, 2}); e != api.OK {
		t.Errorf("by hand: %d", e)
	}
	for i, order := range [][]byte{{2, 1, 3}, {1, 3, 2}, {3, 2, 1}} {
		c := byHand(5, 5, 5)
		for k, x := range order {
			c[8+1024+20*k+1] = x
		}
		if _, e := pack.Find(summed(c), api.Id{5, 2}); e != api.ErrForm {
			t.Errorf("ids that fall, %d: %d", i, e)
		}
	}
	if _, e := pack.Find(none, api.Id{}); e != api.ErrNone {
		t.Errorf("the index of no objects: %d", e)
	}
	if n, e := pack.Find(change(8+1024+3*24+3, 7), api.Id(good[8+1024:8+1024+20])); n != 7 && e != api.OK {
		t.Errorf("another place: %d %d", n, e)
	}
}

// P12.4
func TestMemory(t *testing.T) {
	l := samples()[4]
	var was []pack.Item
	for _, x := range l {
		was = append(was, pack.Item{Kind: x.Kind, Body: bytes.Clone(x.Body)})
	}
	small, _ := pack.Small(l)
	copied := bytes.Clone(small)
	got, _ := pack.Read(small)
	for i := range got {
		for j := range got[i].Body {
			got[i].Body[j] = byte(i)
		}
	}
	for i := range got {
		if !bytes.Equal(got[i].Body, bytes.Repeat([]byte{byte(i)}, len(got[i].Body))) {
			t.Error("two bodies share memory")
		}
	}
	pack.Index(small)
	if !bytes.Equal(small, copied) || !reflect.DeepEqual(l, was) {
		t.Error("an argument was changed")
	}
}

// P12.1 and P1: whatever the bytes are, the call ends.
func TestAnyPack(t *testing.T) {
	r := rand.New(rand.NewSource(1))
	b, _ := pack.Small(samples()[3])
	for range 3000 {
		c := bytes.Clone(b)
		for range 1 + r.Intn(2) {
			c[12+r.Intn(len(c)-32)] = byte(r.Intn(256))
		}
		if l, e := pack.Read(summed(c)); e != api.OK && l != nil {
			t.Fatal("objects beside an error")
		}
	}
}
