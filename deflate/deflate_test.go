package deflate_test

import (
	"bytes"
	"compress/flate"
	"io"
	"math/rand"
	"strings"
	"testing"

	"tramway/api"
	"tramway/deflate"
	"tramway/inflate"
)

func noise(n int) []byte {
	b := make([]byte, n)
	rand.New(rand.NewSource(int64(n))).Read(b)
	return b
}

func samples() [][]byte {
	r := rand.New(rand.NewSource(1))
	few := make([]byte, 200000)
	for i := range few {
		few[i] = byte(r.Intn(5) * r.Intn(52))
	}
	all := make([]byte, 256)
	for i := range all {
		all[i] = byte(i)
	}
	out := [][]byte{nil, []byte("a"), []byte("ab"), []byte("abc"), []byte("hello, hello, hello"), all, few, noise(150000),
		[]byte(strings.Repeat("the quick brown fox ", 5000)), append(bytes.Clone(noise(32768)), noise(32768)...),
		append(bytes.Clone(noise(32769)), noise(32769)...), append(bytes.Clone(noise(32770)), noise(32770)...)}
	// Every length of a copy, and distances around the borders of their signs.
	for n := 3; n < 262; n++ {
		out = append(out, append(append(noise(300), noise(n)...), noise(n)...))
	}
	for _, n := range []int{5, 8, 9, 16, 17, 24, 25, 32, 33, 192, 193, 1024, 1025, 8192, 8193, 24576, 24577, 32767} {
		out = append(out, append(noise(n), noise(n)[:min(n, 20)]...))
	}
	return out
}

// P4.1
func TestStored(t *testing.T) {
	if got := deflate.Stored([]byte("a")); !bytes.Equal(got, []byte{1, 1, 0, 0xfe, 0xff, 'a'}) {
		t.Errorf("a: % x", got)
	}
	if got := deflate.Stored(nil); !bytes.Equal(got, []byte{1, 0, 0, 0xff, 0xff}) {
		t.Errorf("nothing: % x", got)
	}
	for _, n := range []int{1, 1000, 65534, 65535, 65536, 2*65535 - 1, 2 * 65535, 2*65535 + 1} {
		b := noise(n)
		var want []byte
		for rest := b; len(rest) > 0; {
			k := min(len(rest), 65535)
			last := byte(0)
			if k == len(rest) {
				last = 1
			}
			want = append(want, last, byte(k), byte(k>>8), byte(255-k), byte(255-k>>8))
			want = append(want, rest[:k]...)
			rest = rest[k:]
		}
		if !bytes.Equal(deflate.Stored(b), want) {
			t.Errorf("Stored of %d bytes", n)
		}
	}
}

// P4.2: what is packed is unpacked, here and by others, and isn't greater than stored.
func TestRawIsUnpacked(t *testing.T) {
	for i, b := range samples() {
		p := deflate.Raw(b)
		got, n, e := inflate.Raw(p, len(b))
		if !bytes.Equal(got, b) || n != len(p) || e != api.OK {
			t.Errorf("sample %d of %d bytes: %d bytes, %d of %d, %d", i, len(b), len(got), n, len(p), e)
		}
		other, err := io.ReadAll(flate.NewReader(bytes.NewReader(p)))
		if err != nil || !bytes.Equal(other, b) {
			t.Errorf("sample %d: %v", i, err)
		}
		if most := len(deflate.Stored(b)); len(p) > most {
			t.Errorf("sample %d: %d bytes, stored %d", i, len(p), most)
		}
		if !bytes.Equal(p, deflate.Raw(b)) {
			t.Errorf("sample %d: another answer to the same question", i)
		}
	}
}

// P4.2
func TestRunsAreShort(t *testing.T) {
	for _, x := range []byte{0, 'a', 200, 255} {
		for _, n := range []int{1, 2, 3, 10, 100, 258, 259, 260, 1000, 5000, 32768, 100000, 1 << 20} {
			b := bytes.Repeat([]byte{x}, n)
			p := deflate.Raw(b)
			if len(p) > 20+n/50 {
				t.Errorf("%d times %d: %d bytes", n, x, len(p))
			}
			if got, _, _ := inflate.Raw(p, n); !bytes.Equal(got, b) {
				t.Errorf("%d times %d isn't unpacked", n, x)
			}
		}
	}
}

// P4.2: what lies farther behind than is kept is forgotten, without harm.
func TestLongNoise(t *testing.T) {
	b := append(noise(400000), noise(400000)...)
	p := deflate.Raw(b)
	if got, _, e := inflate.Raw(p, len(b)); !bytes.Equal(got, b) || e != api.OK {
		t.Error("long noise")
	}
}

// P4.3
func TestMemory(t *testing.T) {
	b := noise(100)
	was := bytes.Clone(b)
	for _, p := range [][]byte{deflate.Raw(b), deflate.Stored(b)} {
		for i := range p {
			p[i] = 0
		}
	}
	if !bytes.Equal(b, was) {
		t.Error("b was changed")
	}
}
