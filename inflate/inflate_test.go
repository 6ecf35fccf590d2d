package inflate_test

import (
	"bytes"
	"compress/flate"
	"math/rand"
	"strings"
	"testing"

	"tramway/api"
	"tramway/inflate"
)

// stream is written bit by bit.
type stream struct {
	b []byte
	n int
}

func (s *stream) bit(x int) *stream {
	if s.n%8 == 0 {
		s.b = append(s.b, 0)
	}
	s.b[s.n/8] |= byte(x << (s.n % 8))
	s.n++
	return s
}

// num: a number, the lowest bit first.
func (s *stream) num(x, n int) *stream {
	for i := range n {
		s.bit(x >> i & 1)
	}
	return s
}

// code: bits of a code, as text, in the order in which they come.
func (s *stream) code(bits string) *stream {
	for _, c := range bits {
		s.bit(int(c - '0'))
	}
	return s
}

// full: the bits, and noughts to the end of the byte; then so many bytes more.
func (s *stream) full(more ...byte) []byte { return append(s.b, more...) }

// open: the front of a block that is the last one.
func open(kind int) *stream { return new(stream).num(1, 1).num(kind, 2) }

func want(t *testing.T, name string, b []byte, most int, made string, took int, no api.Errno) {
	t.Helper()
	got, n, e := inflate.Raw(b, most)
	if string(got) != made || n != took || e != no {
		t.Errorf("%s: Raw(% x, %d): %q %d %d, want %q %d %d", name, b, most, got, n, e, made, took, no)
	}
}

func pack(b []byte, level int) []byte {
	var out bytes.Buffer
	w, _ := flate.NewWriter(&out, level)
	w.Write(b)
	w.Close()
	return out.Bytes()
}

// samples are texts of many kinds.
func samples() [][]byte {
	r := rand.New(rand.NewSource(1))
	noise := make([]byte, 70000)
	r.Read(noise)
	few := make([]byte, 50000)
	for i := range few {
		few[i] = byte(r.Intn(4) * r.Intn(60))
	}
	return [][]byte{nil, []byte("a"), []byte("hello, hello, hello"), noise, few, noise[:300],
		bytes.Repeat([]byte{0}, 100000), []byte(strings.Repeat("the quick brown fox ", 4000)),
		append(append([]byte{}, noise[:32768]...), noise[:32768]...)}
}

// P3.1
func TestExamples(t *testing.T) {
	want(t, "nothing", []byte{3, 0}, 10, "", 2, api.OK)
	want(t, "a", []byte{0x4b, 0x04, 0x00}, 10, "a", 3, api.OK)
	want(t, "stored", []byte{1, 1, 0, 0xfe, 0xff, 0x61}, 10, "a", 6, api.OK)
	want(t, "too long", []byte{0x4b, 0x4c, 0x4c, 0x04, 0x00}, 2, "", 0, api.ErrLong)
}

// P3.1
func TestWhatWasPackedIsUnpacked(t *testing.T) {
	for i, b := range samples() {
		for _, level := range []int{0, 1, 6, 9, flate.HuffmanOnly} {
			p := pack(b, level)
			for _, more := range []string{"", "x", "\xff\xff\xff"} {
				got, n, e := inflate.Raw(append(bytes.Clone(p), more...), len(b))
				if !bytes.Equal(got, b) || n != len(p) || e != api.OK {
					t.Errorf("sample %d, level %d: %d bytes, %d of %d, %d", i, level, len(got), n, len(p), e)
				}
			}
			if len(b) > 0 {
				if got, n, e := inflate.Raw(p, len(b)-1); got != nil || n != 0 || e != api.ErrLong {
					t.Errorf("sample %d, level %d, no room: %d", i, level, e)
				}
				if _, _, e := inflate.Raw(p, -5); e != api.ErrLong {
					t.Errorf("sample %d, level %d, a negative most: %d", i, level, e)
				}
			}
		}
	}
	want(t, "no bytes fit into a negative most", []byte{3, 0}, -1, "", 2, api.OK)
}

// P3.1
func TestEachEnd(t *testing.T) {
	for _, b := range samples()[:3] {
		for _, level := range []int{0, 6, flate.HuffmanOnly} {
			p := pack(b, level)
			for n := range p {
				want(t, "cut", p[:n], 1000, "", 0, api.ErrEnd)
			}
		}
	}
	want(t, "nil", nil, 0, "", 0, api.ErrEnd)
}

// P3.1
func TestStoredBlocks(t *testing.T) {
	two := new(stream).num(0, 3).full(2, 0, 0xfd, 0xff, 'x', 'y', 1, 1, 0, 0xfe, 0xff, 'z', '!')
	want(t, "two", two, 3, "xyz", 13, api.OK)
	want(t, "the rest of the byte may be anything", []byte{0xf9, 1, 0, 0xfe, 0xff, 'x'}, 3, "x", 6, api.OK)
	want(t, "lengths differ", []byte{1, 1, 0, 0xfe, 0xfe}, 9, "", 0, api.ErrForm)
	want(t, "lengths cut", []byte{1, 1, 0, 0xfe}, 9, "", 0, api.ErrEnd)
	want(t, "the end is met first", []byte{1, 3, 0, 0xfc, 0xff, 'x', 'y'}, 2, "", 0, api.ErrEnd)
	want(t, "the room is met first", []byte{1, 3, 0, 0xfc, 0xff, 'x', 'y'}, 1, "", 0, api.ErrLong)
	want(t, "just fits", []byte{1, 3, 0, 0xfc, 0xff, 'x', 'y', 'z'}, 3, "xyz", 8, api.OK)
}

// P3.1
func TestKindThree(t *testing.T) {
	want(t, "kind 3", open(3).full(), 9, "", 0, api.ErrForm)
	want(t, "kind 3, not the last", new(stream).num(0, 1).num(3, 2).full(), 9, "", 0, api.ErrForm)
}

// P3.1: the fixed codes' signs and distances, one by one.
func TestFixedBlocks(t *testing.T) {
	want(t, "borders", open(1).num(0, 0).code("00110000").code("10111111").code("110010000").code("111111111").code("0000000").full(),
		4, "\x00\x8f\x90\xff", 6, api.OK)
	a := "10010001" // the sign of "a"
	want(t, "three of distance 1", open(1).code(a).code("0000001").code("00000").code("0000000").full(), 9, "aaaa", 4, api.OK)
	want(t, "length 258", open(1).code(a).code("11000101").code("00000").code("0000000").full(), 259, strings.Repeat("a", 259), 4, api.OK)
	want(t, "length 257", open(1).code(a).code("11000100").num(30, 5).code("00000").code("0000000").full(), 258, strings.Repeat("a", 258), 5, api.OK)
	want(t, "length 258 the other way", open(1).code(a).code("11000100").num(31, 5).code("00000").code("0000000").full(), 259, strings.Repeat("a", 259), 5, api.OK)
	want(t, "sign 286", open(1).code(a).code("11000110").full(), 9, "", 0, api.ErrForm)
	want(t, "sign 287", open(1).code(a).code("11000111").full(), 9, "", 0, api.ErrForm)
	want(t, "distance 30", open(1).code(a).code("0000001").code("11110").full(), 9, "", 0, api.ErrForm)
	want(t, "distance 31", open(1).code(a).code("0000001").code("11111").full(), 9, "", 0, api.ErrForm)
	want(t, "too far", open(1).code(a).code("0000001").code("00001").full(), 9, "", 0, api.ErrForm)
	want(t, "too far by further bits", open(1).code(a).code("0000001").code("00100").num(1, 1).full(), 9, "", 0, api.ErrForm)
	want(t, "the end ahead of the further bits", open(1).code(a).code("0000001").code("11101").full(), 9, "", 0, api.ErrEnd)
	want(t, "a copy that is cut short by most", open(1).code(a).code("0000001").code("00000").full(), 3, "", 0, api.ErrLong)
}

// digits is a number as n bits, the highest first.
func digits(x, n int) string {
	s := ""
	for i := n - 1; i >= 0; i-- {
		s += string(rune('0' + x>>i&1))
	}
	return s
}

// fixed is the fixed code of a sign from 256 on.
func fixed(sign int) string {
	if sign <= 279 {
		return digits(sign-256, 7)
	}
	return digits(sign-280+0xc0, 8)
}

// P3.1: each sign of a length, with the least and the most that its further bits tell.
func TestEachLength(t *testing.T) {
	least := []int{3, 4, 5, 6, 7, 8, 9, 10, 11, 13, 15, 17, 19, 23, 27, 31, 35, 43, 51, 59, 67, 83, 99, 115, 131, 163, 195, 227, 258}
	for i, n := range least {
		further := max(0, i-4) / 4
		if i == 28 {
			further = 0
		}
		for _, x := range []int{0, 1<<further - 1} {
			b := open(1).code("10010001").code(fixed(257+i)).num(x, further).code("00000").code("0000000").full()
			want(t, "a length", b, 300, strings.Repeat("a", 1+n+x), len(b), api.OK)
		}
	}
}

// P3.1: each sign of a distance, with the least and the most that its further bits tell.
func TestEachDistance(t *testing.T) {
	least := []int{1, 2, 3, 4, 5, 7, 9, 13, 17, 25, 33, 49, 65, 97, 129, 193, 257, 385, 513, 769, 1025, 1537, 2049, 3073, 4097, 6145, 8193, 12289, 16385, 24577}
	noise := make([]byte, 32768)
	rand.New(rand.NewSource(3)).Read(noise)
	for i, n := range least {
		further := max(0, i-2) / 2
		for _, x := range []int{0, 1<<further - 1} {
			s := new(stream).num(0, 3).num(0, 5).num(32767, 16).num(32768, 16)
			for _, c := range noise[:32767] {
				s.num(int(c), 8)
			}
			s.num(0, 3).num(0, 5).num(1, 16).num(65534, 16).num(int(noise[32767]), 8)
			s.num(1, 1).num(1, 2).code(fixed(257)).code(digits(i, 5)).num(x, further).code("0000000")
			made := bytes.Clone(noise)
			for range 3 {
				made = append(made, made[len(made)-n-x])
			}
			if got, took, e := inflate.Raw(s.b, 40000); !bytes.Equal(got, made) || took != len(s.b) || e != api.OK {
				t.Errorf("distance %d: %d bytes, %d, %d", n+x, len(got), took, e)
			}
		}
	}
}

// lengthOrder is that in which the lengths of the code for lengths come.
var lengthOrder = []int{16, 17, 18, 0, 8, 7, 9, 6, 10, 5, 11, 4, 12, 3, 13, 2, 14, 1, 15}

// own: the front of a block of kind 2, with a code for lengths.
func own(signs, distances int, lengths map[int]int) *stream {
	s := open(2).num(signs-257, 5).num(distances-1, 5).num(15, 4)
	for _, sign := range lengthOrder {
		s.num(lengths[sign], 3)
	}
	return s
}

// P3.1
func TestCountsOfOwnCodes(t *testing.T) {
	want(t, "286 signs", open(2).num(29, 5).full(), 9, "", 0, api.ErrEnd)
	want(t, "287 signs", open(2).num(30, 5).full(), 9, "", 0, api.ErrForm)
	want(t, "288 signs", open(2).num(31, 5).full(), 9, "", 0, api.ErrForm)
	want(t, "30 distances", open(2).num(0, 5).num(29, 5).full(), 9, "", 0, api.ErrEnd)
	want(t, "31 distances", open(2).num(0, 5).num(30, 5).full(), 9, "", 0, api.ErrForm)
	want(t, "32 distances", open(2).num(0, 5).num(31, 5).full(), 9, "", 0, api.ErrForm)
}

// P3.1
func TestCodesForLengths(t *testing.T) {
	for name, lengths := range map[string]map[int]int{
		"none":                {},
		"one of 2":            {18: 2},
		"too many":            {0: 1, 1: 1, 18: 1},
		"too few":             {0: 1, 1: 2},
		"two of which one is": {0: 2, 1: 2},
	} {
		want(t, name, own(257, 1, lengths).full(), 9, "", 0, api.ErrForm)
	}
	b := own(257, 1, map[int]int{18: 1}).full()
	want(t, "one of 1 is good, and then the end comes", b[:len(b)-1], 9, "", 0, api.ErrEnd)
	want(t, "and its other bit is no sign", own(257, 1, map[int]int{18: 1}).code("1").full(), 9, "", 0, api.ErrForm)
}

// With this code for lengths: 0 is "00", 1 "01", 16 "10", 18 "11"; and 2 takes 17's place in the other one.
func plain(signs, distances int) *stream {
	return own(signs, distances, map[int]int{0: 2, 1: 2, 16: 2, 18: 2})
}

// noughts: the lengths of n signs that have none.
func (s *stream) noughts(n int) *stream {
	for ; n >= 11; n -= min(n, 138) {
		s.code("11").num(min(n, 138)-11, 7)
	}
	for range n {
		s.code("00")
	}
	return s
}

// P3.1
func TestRowsOfLengths(t *testing.T) {
	want(t, "16 at the beginning", plain(257, 1).code("10").full(), 9, "", 0, api.ErrForm)
	s := plain(257, 1).noughts(97).code("01").noughts(158).code("01").code("00").code("0").code("1")
	want(t, "a, by a code of two signs", s.full(), 9, "a", len(s.b), api.OK)
	s = plain(257, 1).noughts(256).code("01").code("11").num(0, 7)
	want(t, "18 beyond the end", s.full(), 9, "", 0, api.ErrForm)
	s = plain(257, 1).noughts(256).code("01").code("10").num(0, 2)
	want(t, "16 beyond the end", s.full(), 9, "", 0, api.ErrForm)
	// 16 goes on from the signs into the distances: the last two noughts, and then one more.
	s = plain(259, 2).noughts(256).code("01").code("00").code("10").num(0, 2).code("0")
	want(t, "16 across the border", s.full(), 9, "", len(s.b), api.OK)
	// 16 tells the length ahead, not nought: 255, 256 and two more signs have the length 2.
	s = own(259, 1, map[int]int{0: 2, 2: 2, 16: 2, 18: 2}).noughts(255).code("01").code("10").num(0, 2).code("00").code("01")
	want(t, "16 tells the last length", s.full(), 9, "", len(s.b), api.OK)
}

// P3.1: codes of all lengths, up to 15.
func TestLongestCodes(t *testing.T) {
	// The code for lengths: 18 is "0", 0 to 15 are "1" and four bits.
	lengths := map[int]int{18: 1}
	for n := range 16 {
		lengths[n] = 5
	}
	sign := func(n int) string { return "1" + digits(n, 4) }
	for _, last := range []int{15, 14} {
		s := own(257, 1, lengths)
		s.code("0").num(97-11, 7)
		for n := 1; n <= 14; n++ { // a to n: 1 to 14 bits
			s.code(sign(n))
		}
		s.code(sign(15)).code("0").num(138-11, 7).code(sign(0)).code(sign(0)).code(sign(0)).code(sign(0)).code(sign(0)).code(sign(0))
		s.code(sign(last)).code(sign(0)) // 256, and no distance
		s.code("11111111111110").code("0").code("111111111111110").code("111111111111111")
		if last == 15 {
			want(t, "a code of 1 to 15 bits", s.full(), 9, "nao", len(s.b), api.OK)
		} else {
			want(t, "one of 14 too many", s.full(), 9, "", 0, api.ErrForm)
		}
	}
}

// P3.1
func TestSeventeen(t *testing.T) {
	// 1 is "0", 17 "10", 18 "11".
	s := own(257, 1, map[int]int{1: 1, 17: 2, 18: 2})
	s.code("11").num(127, 7).code("11").num(138-11-20-10, 7) // 138 and 108
	s.code("10").num(7, 3)                                   // 10
	s.code("0").code("0")                                    // 256, and the distance 0
	s.code("0")
	want(t, "17 has three further bits", s.full(), 9, "", len(s.b), api.OK)
}

// P3.1
func TestCodesThatAreNoGood(t *testing.T) {
	want(t, "no sign 256", plain(257, 1).noughts(97).code("01").noughts(159).code("01").full(), 9, "", 0, api.ErrForm)
	want(t, "three of 1", plain(257, 1).noughts(97).code("01").code("01").noughts(157).code("01").code("00").full(), 9, "", 0, api.ErrForm)
	want(t, "three distances of 1", plain(257, 3).noughts(256).code("01").code("01").code("01").code("01").full(), 9, "", 0, api.ErrForm)
	two := func() *stream { return own(257, 1, map[int]int{0: 2, 2: 2, 16: 2, 18: 2}) }
	want(t, "256 alone, of 2", two().noughts(256).code("01").code("00").full(), 9, "", 0, api.ErrForm)
	want(t, "one distance, of 2", own(257, 1, map[int]int{0: 2, 1: 2, 2: 2, 18: 2}).noughts(256).code("01").code("10").full(), 9, "", 0, api.ErrForm)
	s := plain(257, 1).noughts(256).code("01").code("00").code("1")
	want(t, "256 alone, of 1: its other bit is no sign", s.full(), 9, "", 0, api.ErrForm)
	s = plain(257, 1).noughts(256).code("01").code("00").code("0")
	want(t, "256 alone, of 1", s.full(), 9, "", len(s.b), api.OK)
}

// threeSigns: a, 256 and the length sign 265 (of one further bit), by a code of lengths 1, 2, 2; so many distances of length 1.
func threeSigns(distances int) *stream {
	// 0 is "00", 1 "01", 2 "10", 18 "11".
	s := own(266, 2, map[int]int{0: 2, 1: 2, 2: 2, 18: 2})
	s.noughts(97).code("01").noughts(158).code("10").noughts(8).code("10")
	for i := range 2 {
		s.code([]string{"00", "01"}[min(1, max(0, distances-i))])
	}
	return s
}

// P3.1
func TestDistances(t *testing.T) {
	s := threeSigns(1).code("0").code("11").num(1, 1).code("0").code("10")
	want(t, "one distance", s.full(), 99, strings.Repeat("a", 13), len(s.b), api.OK)
	s = threeSigns(1).code("0").code("11").num(1, 1).code("1")
	want(t, "its other bit is no sign", s.full(), 99, "", 0, api.ErrForm)
	s = threeSigns(2).code("0").code("0").code("11").num(0, 1).code("1").code("10")
	want(t, "two distances", s.full(), 99, strings.Repeat("a", 13), len(s.b), api.OK)
	s = threeSigns(0).code("0").code("0").code("10")
	want(t, "no distance, and none asked", s.full(), 99, "aa", len(s.b), api.OK)
}

// P3.1: of a length where no distance has a code the fault is met behind its further bits.
func TestNoDistance(t *testing.T) {
	s := threeSigns(0)
	for s.n%8 != 6 {
		s.code("0")
	}
	s.code("11")
	want(t, "ahead of the further bit", s.full(), 99, "", 0, api.ErrEnd)
	s.num(0, 1)
	want(t, "behind it", s.full(), 99, "", 0, api.ErrForm)
}

// P3.1 and P1: whatever the bytes are, the call ends, and what it tells fits together.
func TestAnyBytes(t *testing.T) {
	r := rand.New(rand.NewSource(2))
	good := pack([]byte(strings.Repeat("some words, and some more words; ", 30)), 9)
	for range 30000 {
		b := bytes.Clone(good)
		for range 1 + r.Intn(3) {
			b[r.Intn(min(len(b), 60))] ^= byte(1 << r.Intn(8))
		}
		most := r.Intn(2000)
		got, n, e := inflate.Raw(b, most)
		if e == api.OK && (n > len(b) || len(got) > most) || e != api.OK && (got != nil || n != 0) {
			t.Fatalf("Raw(% x, %d): %d bytes, %d, %d", b, most, len(got), n, e)
		}
		if e == api.OK || e == api.ErrForm {
			again, m, f := inflate.Raw(append(b, 1, 2, 3), most)
			if !bytes.Equal(got, again) || n != m || e != f {
				t.Fatalf("Raw(% x, %d) hangs on what stands behind", b, most)
			}
		}
	}
}

// P3.2
func TestMemory(t *testing.T) {
	b := []byte{1, 1, 0, 0xfe, 0xff, 'a'}
	got, _, _ := inflate.Raw(b, 9)
	got[0] = 'b'
	if !bytes.Equal(b, []byte{1, 1, 0, 0xfe, 0xff, 'a'}) {
		t.Error("the answer lies in the argument")
	}
}
