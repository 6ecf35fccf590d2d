package zlib_test

import (
	"bytes"
	stdzlib "compress/zlib"
	"io"
	"math/rand"
	"strings"
	"testing"

	"tramway/api"
	"tramway/deflate"
	"tramway/zlib"
)

func samples() [][]byte {
	noise := make([]byte, 70000)
	rand.New(rand.NewSource(1)).Read(noise)
	return [][]byte{nil, []byte("a"), []byte("hello, hello, hello"), noise, bytes.Repeat([]byte{255}, 9000),
		[]byte(strings.Repeat("the quick brown fox ", 500))}
}

func want(t *testing.T, name string, b []byte, most int, made string, took int, no api.Errno) {
	t.Helper()
	got, n, e := zlib.Open(b, most)
	if string(got) != made || n != took || e != no {
		t.Errorf("%s: Open(% x, %d): %q %d %d, want %q %d %d", name, b, most, got, n, e, made, took, no)
	}
}

var frame = []byte{0x78, 0x9c, 0x4b, 0x04, 0x00, 0x00, 0x62, 0x00, 0x62}

// P5.1
func TestOpen(t *testing.T) {
	want(t, "the example", frame, 5, "a", 9, api.OK)
	want(t, "with more behind", append(bytes.Clone(frame), 1, 2), 1, "a", 9, api.OK)
	want(t, "no room", frame, 0, "", 0, api.ErrLong)
	want(t, "a negative most", frame, -1, "", 0, api.ErrLong)
	for n := range frame {
		want(t, "cut", frame[:n], 5, "", 0, api.ErrEnd)
	}
	for i := 5; i < 9; i++ {
		b := bytes.Clone(frame)
		b[i] ^= 1
		want(t, "another sum", b, 5, "", 0, api.ErrSum)
	}
	want(t, "a block of kind 3", []byte{0x78, 0x9c, 7}, 5, "", 0, api.ErrForm)
}

// P5.1: all that the first two bytes may be.
func TestFronts(t *testing.T) {
	for x := range 256 {
		for y := range 256 {
			b := append([]byte{byte(x), byte(y)}, frame[2:]...)
			if x%16 == 8 && x/16 <= 7 && y&32 == 0 && (256*x+y)%31 == 0 {
				want(t, "right", b, 5, "a", 9, api.OK)
			} else {
				want(t, "wrong", b, 5, "", 0, api.ErrForm)
				want(t, "wrong, and nothing more", b[:2], 5, "", 0, api.ErrForm)
			}
		}
	}
}

// P5.1
func TestOthersFramesAreOpened(t *testing.T) {
	for i, b := range samples() {
		for _, level := range []int{0, 1, 6, 9} {
			var out bytes.Buffer
			w, _ := stdzlib.NewWriterLevel(&out, level)
			w.Write(b)
			w.Close()
			got, n, e := zlib.Open(out.Bytes(), len(b))
			if !bytes.Equal(got, b) || n != out.Len() || e != api.OK {
				t.Errorf("sample %d, level %d: %d", i, level, e)
			}
		}
	}
}

// P5.2
func TestWrap(t *testing.T) {
	for i, b := range samples() {
		f := zlib.Wrap(b)
		if !bytes.Equal(f[:2], []byte{0x78, 0x9c}) || !bytes.Equal(f[2:len(f)-4], deflate.Raw(b)) {
			t.Errorf("sample %d: the frame's bytes", i)
		}
		r, err := stdzlib.NewReader(bytes.NewReader(f))
		if err != nil {
			t.Fatal(err)
		}
		if got, err := io.ReadAll(r); err != nil || !bytes.Equal(got, b) {
			t.Errorf("sample %d: %v", i, err)
		}
	}
}

// P5.3
func TestThereAndBack(t *testing.T) {
	for i, b := range samples() {
		was := bytes.Clone(b)
		f := zlib.Wrap(b)
		got, n, e := zlib.Open(append(bytes.Clone(f), "behind"...), len(b))
		if !bytes.Equal(got, b) || n != len(f) || e != api.OK {
			t.Errorf("sample %d: %d of %d, %d", i, n, len(f), e)
		}
		for k := 1; k <= 4; k++ {
			f[len(f)-k] ^= 0x80
			if _, _, e := zlib.Open(f, len(b)); e != api.ErrSum {
				t.Errorf("sample %d: another sum: %d", i, e)
			}
			f[len(f)-k] ^= 0x80
		}
		copied := bytes.Clone(f)
		for k := range got {
			got[k]++
		}
		if !bytes.Equal(b, was) || !bytes.Equal(f, copied) {
			t.Errorf("sample %d: an argument was changed", i)
		}
	}
}
