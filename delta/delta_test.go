package delta_test

import (
	"bytes"
	"math"
	"math/rand"
	"strings"
	"testing"

	"tramway/api"
	"tramway/delta"
	"tramway/nums"
)

func noise(n int, seed int64) []byte {
	b := make([]byte, n)
	rand.New(rand.NewSource(seed)).Read(b)
	return b
}

// d: a delta of both sizes and steps.
func d(from, to int, steps ...byte) []byte {
	return append(append(nums.Leb(from), nums.Leb(to)...), steps...)
}

// P8.1
func TestSizes(t *testing.T) {
	for _, c := range []struct {
		d    []byte
		a, b int
		e    api.Errno
	}{
		{[]byte{3, 4}, 3, 4, api.OK}, {[]byte{0xac, 2, 0x80, 1, 9, 9}, 300, 128, api.OK}, {nil, 0, 0, api.ErrEnd}, {[]byte{3}, 0, 0, api.ErrEnd},
		{[]byte{0x80}, 0, 0, api.ErrEnd}, {[]byte{3, 0x80}, 0, 0, api.ErrEnd}, {bytes.Repeat([]byte{0xff}, 13), 0, 0, api.ErrLong},
		{append([]byte{3}, bytes.Repeat([]byte{0x80}, 13)...), 0, 0, api.ErrLong},
	} {
		if a, b, e := delta.Sizes(c.d); a != c.a || b != c.b || e != c.e {
			t.Errorf("Sizes(% x): %d %d %d", c.d, a, b, e)
		}
		if c.e != api.OK {
			if _, e := delta.Apply([]byte("abc"), c.d, 99); e != c.e {
				t.Errorf("Apply(% x): %d", c.d, e)
			}
		}
	}
}

func want(t *testing.T, base string, d []byte, most int, out string, no api.Errno) {
	t.Helper()
	got, e := delta.Apply([]byte(base), d, most)
	if string(got) != out || e != no {
		t.Errorf("Apply(%q, % x, %d): %q %d, want %q %d", base, d, most, got, e, out, no)
	}
}

// P8.2
func TestApply(t *testing.T) {
	want(t, "abc", []byte{3, 4, 0x90, 2, 2, 'x', 'y'}, 4, "abxy", api.OK)
	want(t, "abc", []byte{3, 3, 0x91, 1, 2, 1, 'z'}, 9, "bcz", api.OK)
	want(t, "abc", d(3, 0), 0, "", api.OK)
	want(t, "", d(0, 0), 0, "", api.OK)
	want(t, "abc", d(2, 0), 0, "", api.ErrForm)
	want(t, "abc", d(2, 9), 0, "", api.ErrForm)
	want(t, "abc", d(3, 4, 0x90, 2, 2, 'x', 'y'), 3, "", api.ErrLong)
	want(t, "abc", d(3, 4), 3, "", api.ErrLong)
	want(t, "abc", d(3, 0), -1, "", api.ErrLong)
	want(t, "abc", d(3, 0), math.MinInt, "", api.ErrLong)
	want(t, "abc", d(3, 2, 1, 'x'), 9, "", api.ErrForm)
	want(t, "abc", d(3, 1<<61), math.MaxInt, "", api.ErrForm)
	want(t, "abc", d(3, 2, 3, 'x', 'y', 'z'), 9, "", api.ErrForm)
	want(t, "abc", d(3, 2, 0x90, 3), 9, "", api.ErrForm)
	want(t, "abc", d(3, 2, 0), 9, "", api.ErrForm)
	want(t, "abc", d(3, 2, 2, 'x', 'y', 0), 9, "", api.ErrForm)
	want(t, "abc", d(3, 2, 2, 'x'), 9, "", api.ErrEnd)
	want(t, "abc", d(3, 1, 2, 'x'), 9, "", api.ErrEnd)
	want(t, "abc", d(3, 2, 0x91, 1), 9, "", api.ErrEnd)
	want(t, "abc", d(3, 2, 0x90), 9, "", api.ErrEnd)
	want(t, "abc", d(3, 2, 0x92, 1, 1), 9, "", api.ErrForm)
	want(t, "abc", d(3, 1, 0x91, 3, 1), 9, "", api.ErrForm)
	want(t, "abc", d(3, 1, 0x91, 4, 1), 9, "", api.ErrForm)
	want(t, "abc", d(3, 2, 0x91, 2, 2), 9, "", api.ErrForm)
	want(t, "abc", d(3, 2, 0xff, 1, 0, 0, 0, 2, 0, 0), 9, "bc", api.OK)
	want(t, "abc", d(3, 2, 0xff, 0xff, 0xff, 0xff, 0xff, 0xff, 0xff, 0xff), 9, "", api.ErrForm)
	want(t, "abc", d(3, 2, 0x88, 1), 9, "", api.ErrForm)
	want(t, "abc", d(3, 6, 0x90, 3, 0x90, 3), 6, "abcabc", api.OK)
}

// P8.2: each bit of a copy tells its own byte.
func TestEachByteOfACopy(t *testing.T) {
	base := noise(1<<24+1<<17, 1)
	cases := []struct {
		step        []byte
		place, size int
	}{
		{[]byte{0x80}, 0, 65536}, {[]byte{0x90, 0}, 0, 65536}, {[]byte{0x81, 7}, 7, 65536}, {[]byte{0x82, 7}, 7 << 8, 65536},
		{[]byte{0x84, 7}, 7 << 16, 65536}, {[]byte{0x88 | 0x10, 1, 7}, 1 << 24, 7}, {[]byte{0xa0, 7}, 0, 7 << 8}, {[]byte{0xc0, 7}, 0, 7 << 16},
		{[]byte{0xd7, 1, 2, 3, 4, 5}, 0x030201, 0x050004}, {[]byte{0xb1, 9, 1, 1}, 9, 257},
	}
	for _, c := range cases {
		got, e := delta.Apply(base, append(d(len(base), c.size), c.step...), 1<<24)
		if e != api.OK || !bytes.Equal(got, base[c.place:c.place+c.size]) {
			t.Errorf("% x: %d bytes, %d", c.step, len(got), e)
		}
	}
}

// pairs are bases and targets of many kinds.
func pairs() [][2][]byte {
	text := []byte(strings.Repeat("one line, and another one; ", 3000))
	changed := bytes.Clone(text)
	for i := 500; i < len(changed); i += 5000 {
		changed[i] ^= 1
	}
	n := noise(200000, 2)
	out := [][2][]byte{{nil, nil}, {nil, []byte("abc")}, {[]byte("abc"), nil}, {text, changed}, {changed, text}, {text, n}, {n, text},
		{n, append(bytes.Clone(n[100000:]), n[:100000]...)}, {n, n[3:]}, {n, append([]byte("x"), n...)}, {n[:100], bytes.Repeat(n[:100], 50)},
		{bytes.Repeat([]byte{0}, 100000), bytes.Repeat([]byte{0}, 100001)}, {bytes.Repeat([]byte("ab"), 10), bytes.Repeat([]byte("ab"), 7)}}
	// Targets in which a block of the base comes between others, again and again.
	var mixed []byte
	for i := range 300 {
		mixed = append(mixed, noise(1+i%130, int64(i))...)
		mixed = append(mixed, n[16*i:16*i+16]...)
	}
	return append(out, [2][]byte{n, mixed})
}

// P8.3
func TestMake(t *testing.T) {
	for i, p := range pairs() {
		made := delta.Make(p[0], p[1])
		got, e := delta.Apply(p[0], made, len(p[1]))
		if e != api.OK || !bytes.Equal(got, p[1]) {
			t.Errorf("pair %d: %d bytes, %d", i, len(got), e)
		}
		if most := 30 + len(p[1]) + len(p[1])/100; len(made) > most {
			t.Errorf("pair %d: %d bytes, at most %d", i, len(made), most)
		}
		if !bytes.Equal(made, delta.Make(p[0], p[1])) {
			t.Errorf("pair %d: another answer to the same question", i)
		}
	}
}

// P8.3: of short bytes all that there are.
func TestMakeOfShortBytes(t *testing.T) {
	r := rand.New(rand.NewSource(3))
	for range 5000 {
		base, target := make([]byte, r.Intn(60)), make([]byte, r.Intn(200))
		for _, b := range [][]byte{base, target} {
			for i := range b {
				b[i] = byte(r.Intn(1 + r.Intn(3)))
			}
		}
		made := delta.Make(base, target)
		if got, e := delta.Apply(base, made, len(target)); e != api.OK || !bytes.Equal(got, target) {
			t.Fatalf("% x to % x: % x", base, target, made)
		}
		if len(made) > 30+len(target)+len(target)/100 {
			t.Fatalf("% x to % x: %d bytes", base, target, len(made))
		}
	}
}

// P8.3: pieces of the base, that begin and end anywhere.
func TestMakeOfPieces(t *testing.T) {
	r := rand.New(rand.NewSource(8))
	letters := func(n int) []byte {
		b := make([]byte, n)
		for i := range b {
			b[i] = byte('a' + r.Intn(2))
		}
		return b
	}
	for range 2000 {
		base := letters(200)
		var target []byte
		for range 1 + r.Intn(5) {
			from := r.Intn(len(base))
			target = append(append(target, letters(r.Intn(20))...), base[from:from+r.Intn(len(base)-from)]...)
		}
		made := delta.Make(base, target)
		if got, e := delta.Apply(base, made, len(target)); e != api.OK || !bytes.Equal(got, target) {
			t.Fatalf("%s to %s: % x", base, target, made)
		}
	}
}

// P8.3
func TestMakeOfTheSame(t *testing.T) {
	for _, n := range []int{0, 1, 15, 16, 17, 100, 65535, 65536, 65537, 200000, 1<<24 - 1, 1 << 24, 1<<24 + 5} {
		for _, b := range [][]byte{noise(n, 4), make([]byte, n), bytes.Repeat([]byte("ab"), n/2)} {
			made := delta.Make(b, b)
			if most := 30 + 7*(len(b)/65536); len(made) > most {
				t.Errorf("%d bytes: %d, at most %d", len(b), len(made), most)
			}
			if got, e := delta.Apply(b, made, len(b)); e != api.OK || !bytes.Equal(got, b) {
				t.Errorf("%d bytes: %d", len(b), e)
			}
		}
	}
}

// P8.2 and P1: whatever the delta is, the call ends.
func TestAnyDelta(t *testing.T) {
	r := rand.New(rand.NewSource(5))
	base := noise(300, 6)
	target := append(append(noise(40, 7), base[50:200]...), base[:100]...)
	good := delta.Make(base, target)
	for range 20000 {
		b := bytes.Clone(good[:1+r.Intn(len(good))])
		b[r.Intn(len(b))] ^= byte(1 << r.Intn(8))
		out, e := delta.Apply(base, b, 1000)
		if e != api.OK && out != nil || len(out) > 1000 {
			t.Fatalf("% x: %d bytes, %d", b, len(out), e)
		}
	}
}

// P8.4
func TestMemory(t *testing.T) {
	base, target := []byte("abcdefghijklmnopqrstuvwxyz"), []byte("abcdefghijklmnopqrstuvwxyz!")
	made := delta.Make(base, target)
	copied := bytes.Clone(made)
	out, _ := delta.Apply(base, made, 99)
	for i := range out {
		out[i] = 0
	}
	if string(base) != "abcdefghijklmnopqrstuvwxyz" || string(target) != "abcdefghijklmnopqrstuvwxyz!" || !bytes.Equal(made, copied) {
		t.Error("an argument was changed")
	}
}
