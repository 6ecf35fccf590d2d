package revlog_test

import (
	"bytes"
	"math"
	"math/rand"
	"reflect"
	"slices"
	"strings"
	"testing"

	"tramway/api"
	"tramway/nums"
	"tramway/patch"
	"tramway/revlog"
	"tramway/sha"
	"tramway/zlib"
)

// P16.1
func TestNode(t *testing.T) {
	if got := sha.Hex(revlog.Node(api.Id{}, api.Id{}, nil)); got != "b80de5d138758541c5f05265ad144ab9fa86d1db" {
		t.Error(got)
	}
	a, b := api.Id{1, 2}, api.Id{1, 3}
	want := sha.Sum(a[:], b[:], []byte("text"))
	if revlog.Node(a, b, []byte("text")) != want || revlog.Node(b, a, []byte("text")) != want {
		t.Error("the lesser one stands first")
	}
	if revlog.Node(api.Id{}, a, nil) != revlog.Node(a, api.Id{}, nil) || revlog.Node(a, a, nil) != sha.Sum(a[:], a[:]) {
		t.Error("nodes of one parent, of two alike")
	}
}

// P16.4
func TestFind(t *testing.T) {
	l := []api.Id{{1}, {2}, {1}, {}}
	for id, want := range map[api.Id]int{{1}: 0, {2}: 1, {}: 3, {9}: -1} {
		if got := revlog.Find(l, id); got != want {
			t.Errorf("%v: %d", id, got)
		}
	}
	if revlog.Find(nil, api.Id{}) != -1 {
		t.Error("in none")
	}
}

// rev is one as it lies: every number may be told otherwise.
type rev struct {
	front                            string // of eight bytes; empty: as it should be
	chunk                            string
	size, text, base, link           int // size: how many bytes of chunk are told, if it isn't 0
	p1, p2                           int
	node                             api.Id
	end                              string // of twelve bytes; empty: noughts
	p1Bytes, p2Bytes, linkB, baseNum string
}

func number(x int, other string) string {
	if other != "" {
		return other
	}
	return string(nums.Be(uint64(x), 4))
}

// lie writes revisions down.
func lie(l ...rev) []byte {
	var b []byte
	chunks := 0
	for i, r := range l {
		front := r.front
		if front == "" {
			front = string(nums.Be(uint64(chunks), 6)) + "\x00\x00"
			if i == 0 {
				front = "\x00\x03\x00\x01" + front[4:]
			}
		}
		if r.size == 0 {
			r.size = len(r.chunk)
		}
		if r.end == "" {
			r.end = strings.Repeat("\x00", 12)
		}
		b = append(b, front+number(r.size, "")+number(r.text, "")+number(r.base, r.baseNum)+number(r.link, r.linkB)+number(r.p1, r.p1Bytes)+number(r.p2, r.p2Bytes)+string(r.node[:])+r.end+r.chunk...)
		chunks += len(r.chunk)
	}
	return b
}

var none = api.Id{}

// first: the text "abc", and its node.
func first() rev {
	return rev{chunk: "uabc", text: 3, p1: -1, p2: -1, node: revlog.Node(none, none, []byte("abc"))}
}

// second: a patch of the first, to "abxc".
func second() rev {
	p := string(patch.Make([]byte("abc"), []byte("abxc")))
	return rev{chunk: p, text: 4, base: 0, link: 1<<31 - 1, p1: 0, p2: -1, node: revlog.Node(first().node, none, []byte("abxc"))}
}

// P16.2
func TestRead(t *testing.T) {
	one, two := first(), second()
	three := rev{chunk: string(zlib.Wrap([]byte("abxc"))), text: 4, base: 2, link: 5, p1: 1, p2: 0, node: revlog.Node(two.node, one.node, []byte("abxc"))}
	four := rev{text: 4, base: 1, p1: -1, p2: 2, node: revlog.Node(none, three.node, []byte("abxc"))}
	five := rev{base: 4, p1: 0, p2: 0, node: revlog.Node(one.node, one.node, nil)}
	six := rev{chunk: "\x00xyz", text: 4, base: 5, p1: -1, p2: -1, node: revlog.Node(none, none, []byte("\x00xyz"))}
	seven := rev{chunk: "u" + two.chunk, text: 4, base: 0, p1: -1, p2: -1, node: revlog.Node(none, none, []byte("abxc"))}
	eight := rev{chunk: string(zlib.Wrap([]byte(two.chunk))), text: 4, base: 0, p1: 6, p2: -1, node: revlog.Node(seven.node, none, []byte("abxc"))}
	nine := rev{chunk: "u", base: 8, p1: -1, p2: -1, node: revlog.Node(none, none, nil)}
	revs, nodes, e := revlog.Read(lie(one, two, three, four, five, six, seven, eight, nine))
	want := []revlog.Rev{{P1: -1, P2: -1, Text: []byte("abc")}, {P1: 0, P2: -1, Link: 1<<31 - 1, Text: []byte("abxc")}, {P1: 1, P2: 0, Link: 5, Text: []byte("abxc")}, {P1: -1, P2: 2, Text: []byte("abxc")}, {}, {P1: -1, P2: -1, Text: []byte("\x00xyz")},
		{P1: -1, P2: -1, Text: []byte("abxc")}, {P1: 6, P2: -1, Text: []byte("abxc")}, {P1: -1, P2: -1}}
	if e != api.OK || !same(revs, want) {
		t.Errorf("%v %d", revs, e)
	}
	if !slices.Equal(nodes, []api.Id{one.node, two.node, three.node, four.node, five.node, six.node, seven.node, eight.node, nine.node}) {
		t.Errorf("%v", nodes)
	}
	if revs, nodes, e := revlog.Read(nil); len(revs) != 0 || len(nodes) != 0 || e != api.OK {
		t.Errorf("no revisions: %d", e)
	}
}

func same(a, b []revlog.Rev) bool {
	return slices.EqualFunc(a, b, func(x, y revlog.Rev) bool {
		return x.P1 == y.P1 && x.P2 == y.P2 && x.Link == y.Link && bytes.Equal(x.Text, y.Text)
	})
}

// P16.2: in each log one thing is wrong; with two, the one that is named first is told.
func TestErrorsOfRead(t *testing.T) {
	other := func(change func(one, two *rev)) []byte {
		one, two := first(), second()
		change(&one, &two)
		return lie(one, two)
	}
	good := lie(first(), second())
	for name, c := range map[string]struct {
		b []byte
		e api.Errno
	}{
		"cut in the first front":        {good[:63], api.ErrEnd},
		"cut in the second front":       {good[:64+4+63], api.ErrEnd},
		"cut in the first chunk":        {good[:64+3], api.ErrEnd},
		"cut in the second chunk":       {good[:len(good)-1], api.ErrEnd},
		"the first front":               {other(func(a, b *rev) { a.front = "\x00\x03\x00\x02\x00\x00\x00\x00" }), api.ErrForm},
		"a first front that is counted": {other(func(a, b *rev) { a.front = "\x00\x00\x00\x00\x00\x00\x00\x00" }), api.ErrForm},
		"a first front's last bytes":    {other(func(a, b *rev) { a.front = "\x00\x03\x00\x01\x00\x01\x00\x00" }), api.ErrForm},
		"the bytes behind":              {other(func(a, b *rev) { a.front = "\x00\x03\x00\x01\x00\x00\x00\x01" }), api.ErrForm},
		"the second front":              {other(func(a, b *rev) { b.front = "\x00\x00\x00\x00\x00\x05\x00\x00" }), api.ErrForm},
		"a second front like the first": {other(func(a, b *rev) { b.front = "\x00\x03\x00\x01\x00\x04\x00\x00" }), api.ErrForm},
		"the bytes behind the second":   {other(func(a, b *rev) { b.front = "\x00\x00\x00\x00\x00\x04\x01\x00" }), api.ErrForm},
		"the last twelve":               {other(func(a, b *rev) { b.end = strings.Repeat("\x00", 11) + "\x01" }), api.ErrForm},
		"the first of the last twelve":  {other(func(a, b *rev) { a.end = "\x01" + strings.Repeat("\x00", 11) }), api.ErrForm},
		"a parent of itself":            {other(func(a, b *rev) { b.p1 = 1 }), api.ErrForm},
		"a second parent of itself":     {other(func(a, b *rev) { a.p2 = 0 }), api.ErrForm},
		"a parent below -1":             {other(func(a, b *rev) { b.p1 = -2 }), api.ErrForm},
		"a great parent":                {other(func(a, b *rev) { b.p2 = math.MaxInt32 }), api.ErrForm},
		"a base above it":               {other(func(a, b *rev) { b.base = 2 }), api.ErrForm},
		"a base below 0":                {other(func(a, b *rev) { b.base = -1 }), api.ErrForm},
		"a great link":                  {other(func(a, b *rev) { b.link = 1 << 31 }), api.ErrForm},
		"a text too long":               {other(func(a, b *rev) { b.text = api.MaxBody + 1 }), api.ErrLong},
		"too long, and no chunk":        {other(func(a, b *rev) { b.text, b.size = api.MaxBody+1, 99 }), api.ErrLong},
		"a link, and too long":          {other(func(a, b *rev) { b.text, b.link = api.MaxBody+1, -1 }), api.ErrForm},
		"no chunk":                      {other(func(a, b *rev) { b.size = 99; b.chunk = "?" }), api.ErrEnd},
		"far too great a chunk":         {other(func(a, b *rev) { b.size = math.MaxUint32 }), api.ErrEnd},
		"a chunk that begins otherwise": {other(func(a, b *rev) { a.chunk = "?abc" }), api.ErrForm},
		"one that holds nothing":        {other(func(a, b *rev) { *a = rev{chunk: "?", p1: -1, p2: -1, node: revlog.Node(none, none, nil)} }), api.ErrForm},
		"a frame that is none":          {other(func(a, b *rev) { a.chunk = "xabc" }), api.ErrForm},
		"a frame that ends":             {other(func(a, b *rev) { a.chunk = "x" }), api.ErrEnd},
		"a frame with another sum":      {other(func(a, b *rev) { a.chunk = string(zlib.Wrap([]byte("abc"))); a.chunk = a.chunk[:len(a.chunk)-1] + "?" }), api.ErrSum},
		"bytes behind the frame":        {other(func(a, b *rev) { a.chunk = string(zlib.Wrap([]byte("abc"))) + "\x00" }), api.ErrForm},
		"a patch that ends":             {other(func(a, b *rev) { b.chunk = b.chunk[:len(b.chunk)-1] }), api.ErrEnd},
		"a patch that may not be":       {other(func(a, b *rev) { b.chunk = "\x00\x00\x00\x04\x00\x00\x00\x04\x00\x00\x00\x00" }), api.ErrForm},
		"another size":                  {other(func(a, b *rev) { b.text = 3 }), api.ErrForm},
		"another size and node":         {other(func(a, b *rev) { b.text = 3; b.node[0]++ }), api.ErrForm},
		"another node":                  {other(func(a, b *rev) { b.node[0]++ }), api.ErrSum},
		"another parent than that":      {other(func(a, b *rev) { b.p1 = -1 }), api.ErrSum},
		"the first fault ends it":       {other(func(a, b *rev) { a.node[0]++; b.end = "?" }), api.ErrSum},
	} {
		revs, nodes, e := revlog.Read(c.b)
		if revs != nil || nodes != nil || e != c.e {
			t.Errorf("%s: %d, want %d", name, e, c.e)
		}
		if b, id, e := revlog.Add(c.b, revlog.Rev{P1: 99}); b != nil || id != none || e != c.e {
			t.Errorf("%s, Add: %d, want %d", name, e, c.e)
		}
	}
}

// P16.2: a frame of more than may be, and a patch to more.
func TestLongTexts(t *testing.T) {
	long := bytes.Repeat([]byte{7}, api.MaxBody)
	a := rev{chunk: string(zlib.Wrap(long)), text: len(long), p1: -1, p2: -1, node: revlog.Node(none, none, long)}
	if revs, _, e := revlog.Read(lie(a)); e != api.OK || !bytes.Equal(revs[0].Text, long) {
		t.Errorf("just as long as may be: %d", e)
	}
	b := rev{chunk: string(zlib.Wrap(append(long, 7))), text: 5, p1: -1, p2: -1}
	if _, _, e := revlog.Read(lie(b)); e != api.ErrLong {
		t.Errorf("a frame of one more: %d", e)
	}
	c := rev{chunk: "\x00\x00\x00\x00\x00\x00\x00\x00\x00\x00\x00\x01x", text: 5, base: 0, p1: -1, p2: -1}
	if _, _, e := revlog.Read(lie(a, c)); e != api.ErrLong {
		t.Errorf("a patch to one more: %d", e)
	}
}

// texts follow one another in all ways.
func texts() [][]byte {
	r := rand.New(rand.NewSource(1))
	noise := make([]byte, 500)
	r.Read(noise)
	out := [][]byte{nil, []byte("\x01a"), []byte("u"), []byte("x"), {0}, []byte("\x00abc"), []byte("abc"), nil, []byte("a"), noise, append([]byte{0}, noise...), append([]byte("x"), noise...), noise, noise, bytes.Repeat([]byte("ab"), 5000)}
	line := strings.Repeat("a line of it\n", 100)
	for i := range 30 {
		out = append(out, []byte(line[:i*13]+"another"+line[i*13:]))
	}
	return append(out, nil, []byte("\x00"), nil)
}

// P16.3
func TestAdd(t *testing.T) {
	r := rand.New(rand.NewSource(2))
	var b []byte
	var want []revlog.Rev
	var nodes []api.Id
	for i, text := range texts() {
		x := revlog.Rev{P1: r.Intn(i+1) - 1, P2: r.Intn(i+1) - 1, Link: r.Intn(1 << 31), Text: text}
		next, id, e := revlog.Add(b, x)
		if e != api.OK || !bytes.HasPrefix(next, b) || len(next)-len(b) > 64+len(text)+1 {
			t.Fatalf("revision %d: %d bytes, %d", i, len(next)-len(b), e)
		}
		at := func(p int) api.Id {
			if p < 0 {
				return none
			}
			return nodes[p]
		}
		want, nodes = append(want, x), append(nodes, revlog.Node(at(x.P1), at(x.P2), text))
		revs, got, e := revlog.Read(next)
		if e != api.OK || id != nodes[i] || !slices.Equal(got, nodes) || !same(revs, want) {
			t.Fatalf("revision %d: %d", i, e)
		}
		if again, _, _ := revlog.Add(b, x); !bytes.Equal(again, next) {
			t.Fatalf("revision %d: another answer to the same question", i)
		}
		b = next
	}
	if total := 64*len(want) + 20000; len(b) > total {
		t.Errorf("%d bytes: texts that are alike should lie as patches", len(b))
	}
}

// P16.3
func TestErrorsOfAdd(t *testing.T) {
	b := lie(first(), second())
	long := make([]byte, api.MaxBody+1)
	for _, c := range []struct {
		r revlog.Rev
		e api.Errno
	}{
		{revlog.Rev{P1: 2}, api.ErrArg}, {revlog.Rev{P2: 2}, api.ErrArg}, {revlog.Rev{P1: -2}, api.ErrArg}, {revlog.Rev{P2: math.MinInt}, api.ErrArg}, {revlog.Rev{P1: math.MaxInt}, api.ErrArg},
		{revlog.Rev{Link: -1}, api.ErrArg}, {revlog.Rev{Link: 1 << 31}, api.ErrArg}, {revlog.Rev{Link: -1, Text: long}, api.ErrArg}, {revlog.Rev{Text: long}, api.ErrLong}, {revlog.Rev{Text: long[1:]}, api.OK},
		{revlog.Rev{P1: 1, P2: 1, Link: 1<<31 - 1}, api.OK},
	} {
		got, id, e := revlog.Add(b, c.r)
		if e != c.e || e != api.OK && (got != nil || id != none) {
			t.Errorf("%d %d %d: %d, want %d", c.r.P1, c.r.P2, c.r.Link, e, c.e)
		}
	}
	if _, _, e := revlog.Add(nil, revlog.Rev{P1: 0, P2: -1}); e != api.ErrArg {
		t.Errorf("a parent in none: %d", e)
	}
}

// P16.2, P16.3: as many revisions as may be, and one more.
func TestManyRevisions(t *testing.T) {
	one := rev{p1: -1, p2: -1, node: revlog.Node(none, none, nil)}
	l := make([]rev, api.MaxItems)
	for i := range l {
		l[i] = one
		l[i].base = i
	}
	b := lie(l...)
	if revs, _, e := revlog.Read(b); e != api.OK || len(revs) != api.MaxItems {
		t.Errorf("%d", e)
	}
	if _, _, e := revlog.Add(b, revlog.Rev{P1: -1, P2: -1}); e != api.ErrLong {
		t.Errorf("Add of one more: %d", e)
	}
	if _, _, e := revlog.Add(b, revlog.Rev{P1: -2, P2: -1}); e != api.ErrArg {
		t.Errorf("Add of one more, of no parent: %d", e)
	}
	if _, _, e := revlog.Read(append(b, 0)); e != api.ErrLong {
		t.Errorf("one byte more: %d", e)
	}
}

// P16.5
func TestMemory(t *testing.T) {
	b := append(make([]byte, 0, 999), lie(first(), second(), rev{text: 3, base: 0, p1: -1, p2: -1, node: first().node})...)
	was := bytes.Clone(b[:999])
	revs, nodes, _ := revlog.Read(b)
	for i := range revs {
		for j := range revs[i].Text {
			revs[i].Text[j] = byte(i)
		}
		nodes[i] = none
	}
	if !reflect.DeepEqual(revs[0].Text, []byte{0, 0, 0}) || !reflect.DeepEqual(revs[2].Text, []byte{2, 2, 2}) {
		t.Error("two texts share memory")
	}
	text := []byte("\x00some text")
	next, _, _ := revlog.Add(b, revlog.Rev{P1: -1, P2: -1, Text: text})
	for i := range next {
		next[i] = 0xee
	}
	if !bytes.Equal(b[:999], was) || string(text) != "\x00some text" {
		t.Error("an argument was changed")
	}
}

// P1: whatever the bytes are, the call ends.
func TestAnyLog(t *testing.T) {
	r := rand.New(rand.NewSource(3))
	good := lie(first(), second())
	for range 20000 {
		b := bytes.Clone(good)
		b[r.Intn(len(b))] ^= byte(1 << r.Intn(8))
		if revs, nodes, e := revlog.Read(b); e != api.OK && (revs != nil || nodes != nil) {
			t.Fatal("revisions beside an error")
		}
	}
}
