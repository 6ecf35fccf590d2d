package nums_test

import (
	"bytes"
	"encoding/binary"
	"math"
	"math/rand"
	"strconv"
	"testing"

	"tramway/api"
	"tramway/nums"
)

const tooGreat = 1 << 62

// numbers are some of each size, with those around the borders.
func numbers() []int {
	r := rand.New(rand.NewSource(1))
	l := []int{0, tooGreat - 1, tooGreat - 2, 128, 16511, 16512, 2113663, 2113664}
	for n := range 62 {
		l = append(l, 1<<n, 1<<n-1, 1<<n|r.Intn(1<<n))
	}
	return l
}

// P6.1
func TestBe(t *testing.T) {
	for _, c := range []struct {
		n    uint64
		size int
		want string
	}{
		{0x0102030405060708, 8, "\x01\x02\x03\x04\x05\x06\x07\x08"}, {0x0102030405060708, 3, "\x06\x07\x08"},
		{1, 4, "\x00\x00\x00\x01"}, {math.MaxUint64, 2, "\xff\xff"}, {7, 0, ""}, {7, -1, ""}, {7, math.MinInt, ""},
		{7, 9, "\x00\x00\x00\x00\x00\x00\x00\x07"}, {7, math.MaxInt, "\x00\x00\x00\x00\x00\x00\x00\x07"},
	} {
		if got := nums.Be(c.n, c.size); string(got) != c.want {
			t.Errorf("Be(%x, %d): % x", c.n, c.size, got)
		}
	}
}

// P6.1
func TestFromBe(t *testing.T) {
	for text, want := range map[string]uint64{
		"": 0, "\x05": 5, "\x01\x00": 256, "\xff\xff\xff\xff\xff\xff\xff\xff": math.MaxUint64,
		"\x09\x01\x02\x03\x04\x05\x06\x07\x08": 0x0102030405060708,
	} {
		if got := nums.FromBe([]byte(text)); got != want {
			t.Errorf("FromBe(% x): %x", text, got)
		}
	}
	if nums.FromBe(nil) != 0 {
		t.Error("FromBe(nil)")
	}
}

// ofs is what the document says of it, word by word.
func ofs(n int) []byte {
	out := []byte{byte(n & 127)}
	if n >= 128 {
		out = append(ofs(n/128-1), out...)
		out[len(out)-2] |= 128
	}
	return out
}

// P6.2
func TestSevens(t *testing.T) {
	if got := nums.Leb(300); !bytes.Equal(got, []byte{0xac, 2}) {
		t.Errorf("Leb of 300: % x", got)
	}
	for n, want := range map[int]string{0: "\x00", 127: "\x7f", 128: "\x80\x00", 300: "\x81\x2c", 16511: "\xff\x7f", 16512: "\x80\x80\x00"} {
		if got := nums.Ofs(n); string(got) != want {
			t.Errorf("Ofs of %d: % x", n, got)
		}
	}
	for _, n := range numbers() {
		if got := nums.Leb(n); !bytes.Equal(got, binary.AppendUvarint(nil, uint64(n))) {
			t.Errorf("Leb of %d: % x", n, got)
		}
		if got := nums.Ofs(n); !bytes.Equal(got, ofs(n)) {
			t.Errorf("Ofs of %d: % x", n, got)
		}
	}
	for _, n := range []int{-1, tooGreat, math.MinInt, math.MaxInt} {
		if len(nums.Leb(n)) != 0 || len(nums.Ofs(n)) != 0 || len(nums.Head(3, n)) != 0 {
			t.Errorf("bytes of %d", n)
		}
	}
}

// P6.2
func TestHead(t *testing.T) {
	for _, c := range []struct {
		kind, size int
		want       string
	}{{3, 5, "\x35"}, {3, 300, "\xbc\x12"}, {0, 0, "\x00"}, {7, 15, "\x7f"}, {7, 16, "\xf0\x01"}, {-1, 5, ""}, {8, 5, ""}, {math.MaxInt, 5, ""}} {
		if got := nums.Head(c.kind, c.size); string(got) != c.want {
			t.Errorf("Head(%d, %d): % x", c.kind, c.size, got)
		}
	}
}

// row: so many bytes that go on, and a last one.
func row(n int, each byte, last ...byte) []byte {
	return append(bytes.Repeat([]byte{each}, n), last...)
}

// P6.3
func TestFromLeb(t *testing.T) {
	for _, c := range []struct {
		b    []byte
		n, k int
		e    api.Errno
	}{
		{nil, 0, 0, api.ErrEnd}, {row(1, 0x80), 0, 0, api.ErrEnd}, {row(11, 0x80), 0, 0, api.ErrEnd}, {row(12, 0x80), 0, 0, api.ErrEnd},
		{row(1, 0x80, 0), 0, 2, api.OK}, {row(11, 0x80, 0), 0, 12, api.OK}, {row(12, 0x80, 0), 0, 0, api.ErrLong},
		{row(11, 0x80, 1), 0, 0, api.ErrLong}, {row(8, 0xff, 0x3f), tooGreat - 1, 9, api.OK}, {row(8, 0x80, 0x40), 0, 0, api.ErrLong},
		{row(8, 0x80, 0xc0), 0, 0, api.ErrLong}, {row(8, 0x80, 0xc0, 0), 0, 0, api.ErrLong}, {row(9, 0x80, 1), 0, 0, api.ErrLong}, {row(10, 0x80, 2), 0, 0, api.ErrLong},
		{row(8, 0xff, 0xbf, 0x80, 0x80, 0), tooGreat - 1, 12, api.OK}, {row(1, 0xac, 2, 9, 9), 300, 2, api.OK},
	} {
		if n, k, e := nums.FromLeb(c.b); n != c.n || k != c.k || e != c.e {
			t.Errorf("FromLeb(% x): %d %d %d", c.b, n, k, e)
		}
	}
}

// P6.3
func TestFromOfs(t *testing.T) {
	greatest := nums.Ofs(tooGreat - 1)
	beyond := bytes.Clone(greatest)
	beyond[len(beyond)-1] |= 128
	for i := len(beyond) - 1; i >= 0; i-- { // one more than the greatest
		if beyond[i]&127 != 127 {
			beyond[i]++
			break
		}
		beyond[i] &= 128
	}
	for _, c := range []struct {
		b    []byte
		n, k int
		e    api.Errno
	}{
		{nil, 0, 0, api.ErrEnd}, {row(1, 0x80), 0, 0, api.ErrEnd}, {row(8, 0x80), 0, 0, api.ErrEnd},
		{row(1, 0x81, 0x2c, 7), 300, 2, api.OK}, {greatest, tooGreat - 1, len(greatest), api.OK},
		{beyond, 0, 0, api.ErrLong}, {row(20, 0x80), 0, 0, api.ErrLong}, {row(20, 0xff), 0, 0, api.ErrLong},
	} {
		if n, k, e := nums.FromOfs(c.b); n != c.n || k != c.k || e != c.e {
			t.Errorf("FromOfs(% x): %d %d %d", c.b, n, k, e)
		}
	}
}

// P6.3
func TestFromHead(t *testing.T) {
	for _, c := range []struct {
		b             []byte
		kind, size, k int
		e             api.Errno
	}{
		{nil, 0, 0, 0, api.ErrEnd}, {[]byte{0xb5}, 0, 0, 0, api.ErrEnd}, {[]byte{0x35, 1}, 3, 5, 1, api.OK},
		{[]byte{0xbc, 0x12, 1}, 3, 300, 2, api.OK}, {[]byte{0xb5, 0}, 3, 5, 2, api.OK},
		{append([]byte{0xf0}, row(12, 0x80, 0)...), 0, 0, 0, api.ErrLong}, {append([]byte{0xf0}, row(11, 0x80, 0)...), 7, 0, 13, api.OK},
		{append([]byte{0x9f}, nums.Leb(1<<58-1)...), 1, tooGreat - 1, 10, api.OK},
		{append([]byte{0x90}, nums.Leb(1<<58)...), 0, 0, 0, api.ErrLong}, {append([]byte{0x90}, nums.Leb(tooGreat-1)...), 0, 0, 0, api.ErrLong},
	} {
		if kind, size, k, e := nums.FromHead(c.b); kind != c.kind || size != c.size || k != c.k || e != c.e {
			t.Errorf("FromHead(% x): %d %d %d %d", c.b, kind, size, k, e)
		}
	}
}

// P6.4
func TestDec(t *testing.T) {
	for _, n := range append(numbers(), -1, -300, math.MinInt, math.MaxInt) {
		if nums.Dec(n) != strconv.Itoa(n) {
			t.Errorf("Dec(%d)", n)
		}
	}
	for _, n := range numbers() {
		if got, e := nums.FromDec(nums.Dec(n)); got != n || e != api.OK {
			t.Errorf("FromDec of %d: %d %d", n, got, e)
		}
	}
	for _, s := range []string{"", "-", "-0", "-1", "+1", "00", "01", " 1", "1 ", "1_0", "0x1", "1.", "a", "4611686018427387904",
		"9223372036854775808", "99999999999999999999999", "1\n", "١"} {
		if got, e := nums.FromDec(s); got != 0 || e != api.ErrForm {
			t.Errorf("FromDec(%q): %d %d", s, got, e)
		}
	}
}

// P6.5
func TestThereAndBack(t *testing.T) {
	for _, n := range numbers() {
		for _, behind := range []string{"", "\x00", "\xff\xff"} {
			b := nums.Leb(n)
			if got, k, e := nums.FromLeb(append(b, behind...)); got != n || k != len(b) || e != api.OK {
				t.Errorf("leb of %d: %d %d %d", n, got, k, e)
			}
			b = nums.Ofs(n)
			if got, k, e := nums.FromOfs(append(b, behind...)); got != n || k != len(b) || e != api.OK {
				t.Errorf("ofs of %d: %d %d %d", n, got, k, e)
			}
			for kind := range 8 {
				b = nums.Head(kind, n)
				if got, size, k, e := nums.FromHead(append(b, behind...)); got != kind || size != n || k != len(b) || e != api.OK {
					t.Errorf("head of %d and %d: %d %d %d %d", kind, n, got, size, k, e)
				}
			}
		}
		if nums.FromBe(nums.Be(uint64(n), 8)) != uint64(n) {
			t.Errorf("be of %d", n)
		}
	}
}

// P6.5: each row that is read tells what the document says of it, byte by byte.
func TestAnyBytes(t *testing.T) {
	r := rand.New(rand.NewSource(2))
	for range 20000 {
		b := make([]byte, r.Intn(15))
		for i := range b {
			b[i] = byte(r.Intn(256)) | byte(128*min(1, r.Intn(6)))
		}
		n, k, e := nums.FromOfs(b)
		if e == api.OK && !bytes.Equal(nums.Ofs(n), b[:k]) || e != api.OK && (n != 0 || k != 0) {
			t.Fatalf("FromOfs(% x): %d %d %d", b, n, k, e)
		}
		n, k, e = nums.FromLeb(b)
		if e == api.OK && (k > 12 || b[k-1] > 127) || e != api.OK && (n != 0 || k != 0) {
			t.Fatalf("FromLeb(% x): %d %d %d", b, n, k, e)
		}
	}
}
