package patch_test

import (
	"bytes"
	"math"
	"math/rand"
	"strings"
	"testing"

	"tramway/api"
	"tramway/patch"
)

// h: a hunk, n being told apart from how many bytes stand behind.
func h(from, to, n uint32, b string) string {
	var out []byte
	for _, x := range []uint32{from, to, n} {
		out = append(out, byte(x>>24), byte(x>>16), byte(x>>8), byte(x))
	}
	return string(out) + b
}

func hunk(from, to uint32, b string) string { return h(from, to, uint32(len(b)), b) }

// P15.1
func TestApply(t *testing.T) {
	max := uint32(math.MaxUint32)
	for _, c := range []struct {
		base, p string
		most    int
		want    string
		e       api.Errno
	}{
		{"abcd", hunk(1, 2, "xy") + hunk(4, 4, "z"), 6, "axycdz", api.OK}, {"abcd", "", 4, "abcd", api.OK}, {"", "", 0, "", api.OK}, {"abcd", hunk(0, 4, ""), 0, "", api.OK},
		{"abcd", hunk(0, 0, "x") + hunk(0, 0, "y") + hunk(0, 1, "") + hunk(1, 1, "z"), 9, "xyzbcd", api.OK}, {"abcd", hunk(2, 4, "X"), math.MaxInt, "abX", api.OK},
		{"abcd", hunk(1, 2, "xy") + hunk(4, 4, "z"), 5, "", api.ErrLong}, {"abcd", "", 3, "", api.ErrLong}, {"", "", -1, "", api.ErrLong}, {"abcd", hunk(0, 4, ""), math.MinInt, "", api.ErrLong},
		{"abcd", hunk(1, 2, "xy")[:13], 9, "", api.ErrEnd}, {"abcd", hunk(1, 2, "")[:11], 9, "", api.ErrEnd}, {"abcd", "\x00", 9, "", api.ErrEnd}, {"abcd", h(1, 2, 2, "x"), 9, "", api.ErrEnd}, {"abcd", h(1, 2, max, "x"), 9, "", api.ErrEnd}, {"abcd", h(1, 2, 1<<24+1, "x"), 9, "", api.ErrEnd}, {"abcd", hunk(1, 1<<24+2, "x"), 9, "", api.ErrForm}, {"abcd", hunk(1<<24+1, 2, "x"), 9, "", api.ErrForm},
		{"abcd", hunk(2, 1, "x"), 9, "", api.ErrForm}, {"abcd", hunk(1, 5, "x"), 9, "", api.ErrForm}, {"abcd", hunk(5, 5, "x"), 9, "", api.ErrForm}, {"abcd", hunk(max, max, ""), 9, "", api.ErrForm}, {"abcd", hunk(1, max, ""), 9, "", api.ErrForm},
		{"abcd", hunk(1, 3, "x") + hunk(2, 4, "y"), 9, "", api.ErrForm}, {"abcd", hunk(2, 2, "x") + hunk(1, 1, "y"), 9, "", api.ErrForm},
		{"abcd", h(2, 1, 2, "x"), 9, "", api.ErrEnd}, {"abcd", hunk(2, 1, "x") + "\x00", 9, "", api.ErrForm}, {"abcd", hunk(1, 2, "long enough") + "\x00", 3, "", api.ErrEnd}, {"abcd", hunk(1, 2, "long enough") + hunk(9, 9, ""), 3, "", api.ErrForm},
	} {
		if got, e := patch.Apply([]byte(c.base), []byte(c.p), c.most); string(got) != c.want || e != c.e {
			t.Errorf("Apply(%q, %q, %d): %q %d, want %q %d", c.base, c.p, c.most, got, e, c.want, c.e)
		}
	}
}

func pairs() [][2]string {
	text := strings.Repeat("line\n", 2000)
	out := [][2]string{{"", ""}, {"", "abc"}, {"abc", ""}, {"abc", "abc"}, {"abc", "abd"}, {"abc", "bc"}, {"abc", "ab"}, {"aaa", "aa"}, {"aa", "aaa"}, {"abab", "ab"}, {"ab", "abab"}, {text, text + "x"}, {text, "x" + text}, {text, text[5:]}, {text, text}, {"abc", "xyz"}}
	r := rand.New(rand.NewSource(1))
	for range 3000 {
		b := make([]byte, r.Intn(12))
		c := make([]byte, r.Intn(12))
		for _, x := range [][]byte{b, c} {
			for i := range x {
				x[i] = byte('a' + r.Intn(2))
			}
		}
		out = append(out, [2]string{string(b), string(c)})
	}
	return out
}

// P15.2
func TestMake(t *testing.T) {
	for _, p := range pairs() {
		base, target := []byte(p[0]), []byte(p[1])
		made := patch.Make(base, target)
		got, e := patch.Apply(base, made, len(target))
		if e != api.OK || !bytes.Equal(got, target) || len(made) > len(target)+12 || p[0] == p[1] && len(made) != 0 {
			t.Errorf("Make(%q, %q): %q: %q %d", base, target, made, got, e)
		}
		if string(base) != p[0] || string(target) != p[1] || !bytes.Equal(made, patch.Make(base, target)) {
			t.Errorf("Make(%q, %q): an argument was changed, or the answer is another one", base, target)
		}
	}
}

// P15.3
func TestFold(t *testing.T) {
	all := pairs()
	for i := range all {
		base, middle, target := []byte(all[i][0]), []byte(all[i][1]), []byte(all[(i*7)%len(all)][0])
		p, q := patch.Make(base, middle), patch.Make(middle, target)
		f, e := patch.Fold(p, q, base)
		got, no := patch.Apply(base, f, len(target))
		if e != api.OK || no != api.OK || !bytes.Equal(got, target) || len(f) > len(target)+12 {
			t.Errorf("Fold(%q, %q, %q): %q %d", p, q, base, f, e)
		}
	}
	several := []byte(hunk(0, 1, "AA") + hunk(2, 3, "CC"))
	f, e := patch.Fold(several, []byte(hunk(1, 4, "x")+hunk(6, 6, "!")), []byte("abcd"))
	if got, no := patch.Apply([]byte("abcd"), f, 99); string(got) != "AxCd!" || e != api.OK || no != api.OK {
		t.Errorf("%q %q %d", f, got, e)
	}
	if f, e := patch.Fold(several, []byte(hunk(0, 6, "abcd")), []byte("abcd")); len(f) != 0 || e != api.OK {
		t.Errorf("there and back: %q %d", f, e)
	}
}

// P15.3
func TestErrorsOfFold(t *testing.T) {
	for _, c := range []struct {
		p, q string
		e    api.Errno
	}{
		{"x", "", api.ErrEnd}, {hunk(2, 1, ""), "x", api.ErrForm}, {"", "x", api.ErrEnd}, {hunk(0, 3, ""), hunk(0, 1, ""), api.ErrForm}, {hunk(3, 3, "d"), hunk(0, 4, ""), api.OK}, {"", hunk(0, 4, ""), api.ErrForm},
	} {
		if f, e := patch.Fold([]byte(c.p), []byte(c.q), []byte("abc")); e != c.e || e != api.OK && f != nil {
			t.Errorf("Fold(%q, %q): %q %d, want %d", c.p, c.q, f, e, c.e)
		}
	}
}

// P15.4
func TestMemory(t *testing.T) {
	base, p := append(make([]byte, 0, 99), "abcd"...), []byte(hunk(1, 2, "xy"))
	was := bytes.Clone(p)
	for _, q := range [][]byte{p, nil} {
		got, _ := patch.Apply(base, q, 99)
		for i := range got {
			got[i] = '!'
		}
	}
	f, _ := patch.Fold(p, p, base)
	for i := range f {
		f[i] = '!'
	}
	if string(base[:9]) != "abcd\x00\x00\x00\x00\x00" || !bytes.Equal(p, was) {
		t.Error("an argument was changed")
	}
}
