package sums_test

import (
	"bytes"
	"hash/adler32"
	"hash/crc32"
	"math/rand"
	"testing"

	"tramway/sums"
)

func noise(n int, seed int64) []byte {
	b := make([]byte, n)
	rand.New(rand.NewSource(seed)).Read(b)
	return b
}

// P1.1
func TestSumsOfKnownBytes(t *testing.T) {
	for text, want := range map[string][2]uint32{
		"":          {1, 0},
		"a":         {0x00620062, 0xe8b7be43},
		"Wikipedia": {0x11e60398, 0xadaac02e},
		"123456789": {0x091e01de, 0xcbf43926},
	} {
		if got := sums.Adler([]byte(text)); got != want[0] {
			t.Errorf("Adler(%q) = %08x", text, got)
		}
		if got := sums.Crc([]byte(text)); got != want[1] {
			t.Errorf("Crc(%q) = %08x", text, got)
		}
	}
	if sums.Adler(nil) != 1 || sums.Crc(nil) != 0 {
		t.Error("sums of nil")
	}
}

// P1.1
func TestSumsOfLongBytes(t *testing.T) {
	for _, b := range [][]byte{noise(70000, 1), bytes.Repeat([]byte{255}, 100000), make([]byte, 66000)} {
		if sums.Adler(b) != adler32.Checksum(b) {
			t.Errorf("Adler of %d bytes", len(b))
		}
		if sums.Crc(b) != crc32.ChecksumIEEE(b) {
			t.Errorf("Crc of %d bytes", len(b))
		}
	}
}

// P1.2: a and b are taken as they are, even where they aren't below the modulus.
func TestGoingOnFromAnySum(t *testing.T) {
	for _, sum := range []uint32{0, 1, 0xffffffff, 0xfff1fff1, 0xfff0fff0, 0x12345678} {
		if sums.AdlerMore(sum, nil) != sum || sums.CrcMore(sum, []byte{}) != sum {
			t.Errorf("%08x gone on with nothing", sum)
		}
		for _, x := range []byte{0, 1, 200, 255} {
			low := (sum&0xffff + uint32(x)) % 65521
			high := (sum>>16 + low) % 65521
			if got := sums.AdlerMore(sum, []byte{x}); got != high<<16|low {
				t.Errorf("AdlerMore(%08x, %d) = %08x", sum, x, got)
			}
			if got := sums.CrcMore(sum, []byte{x}); got != crc32.Update(sum, crc32.IEEETable, []byte{x}) {
				t.Errorf("CrcMore(%08x, %d) = %08x", sum, x, got)
			}
		}
	}
}

// P1.3
func TestSumsOfRowsGoOn(t *testing.T) {
	b := noise(300, 2)
	for i := range b {
		if sums.AdlerMore(sums.Adler(b[:i]), b[i:]) != sums.Adler(b) {
			t.Fatalf("Adler cut at %d", i)
		}
		if sums.CrcMore(sums.Crc(b[:i]), b[i:]) != sums.Crc(b) {
			t.Fatalf("Crc cut at %d", i)
		}
	}
}

// P1.3
func TestChangesAreSeen(t *testing.T) {
	b := noise(5000, 3)
	adler, crc := sums.Adler(b), sums.Crc(b)
	r := rand.New(rand.NewSource(4))
	for range 200 {
		at, turned := r.Intn(len(b)-4), 1+r.Uint32()%(1<<32-1)
		for i := range 4 {
			b[at+i] ^= byte(turned >> (8 * i))
		}
		if sums.Crc(b) == crc {
			t.Errorf("Crc blind to %08x at %d", turned, at)
		}
		for i := range 4 {
			b[at+i] ^= byte(turned >> (8 * i))
		}
		b[at] ^= byte(turned%255 + 1)
		if sums.Adler(b) == adler {
			t.Errorf("Adler blind at %d", at)
		}
		b[at] ^= byte(turned%255 + 1)
	}
}

// P1.3
func TestArgumentsStay(t *testing.T) {
	b := noise(100, 5)
	was := bytes.Clone(b)
	sums.Adler(b)
	sums.Crc(b)
	sums.AdlerMore(7, b)
	sums.CrcMore(7, b)
	if !bytes.Equal(b, was) {
		t.Error("b was changed")
	}
}
