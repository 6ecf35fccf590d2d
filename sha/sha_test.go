package sha_test

import (
	"bytes"
	"crypto/sha1"
	"encoding/hex"
	"math/rand"
	"strings"
	"testing"

	"tramway/api"
	"tramway/sha"
)

// P2.1
func TestSumOfKnownBytes(t *testing.T) {
	for text, want := range map[string]string{
		"":    "da39a3ee5e6b4b0d3255bfef95601890afd80709",
		"abc": "a9993e364706816aba3e25717850c26c9cd0d89d",
		"abcdbcdecdefdefgefghfghighijhijkijkljklmklmnlmnomnopnopq": "84983e441c3bd26ebaae4aa1f95129e5e54670f1",
		strings.Repeat("a", 1000000):                               "34aa973cd4c4daa4f61eeb2bdbad27316534016f",
	} {
		if got := sha.Hex(sha.Sum([]byte(text))); got != want {
			t.Errorf("sum of %d bytes: %s", len(text), got)
		}
	}
	if sha.Sum() != sha.Sum(nil) || sha.Sum() != sha.Sum([]byte{}, nil) {
		t.Error("no parts, parts without bytes")
	}
}

// P2.1: every length around the blocks' borders.
func TestSumOfEachLength(t *testing.T) {
	b := make([]byte, 300)
	rand.New(rand.NewSource(1)).Read(b)
	for n := range b {
		if sha.Sum(b[:n]) != api.Id(sha1.Sum(b[:n])) {
			t.Errorf("sum of %d bytes", n)
		}
	}
}

// P2.1: parts count as one row.
func TestSumOfParts(t *testing.T) {
	r := rand.New(rand.NewSource(2))
	b := make([]byte, 500)
	r.Read(b)
	want := sha.Sum(b)
	for range 100 {
		i, j := r.Intn(len(b)), r.Intn(len(b))
		if i > j {
			i, j = j, i
		}
		if sha.Sum(b[:i], b[i:j], nil, b[j:]) != want {
			t.Fatalf("parts cut at %d and %d", i, j)
		}
	}
}

// P2.2
func TestHexAndParse(t *testing.T) {
	r := rand.New(rand.NewSource(3))
	for range 100 {
		var id api.Id
		r.Read(id[:])
		text := sha.Hex(id)
		if text != hex.EncodeToString(id[:]) {
			t.Fatalf("Hex: %s", text)
		}
		if got, e := sha.Parse(text); got != id || e != api.OK {
			t.Fatalf("Parse(%s): %v %d", text, got, e)
		}
	}
}

// P2.2
func TestParseOfWrongTexts(t *testing.T) {
	good := strings.Repeat("0a", 20)
	for _, s := range []string{"", "0", good[1:], good + "0", good + "\n", " " + good[1:], strings.ToUpper(good),
		good[:39] + "g", good[:39] + "/", good[:39] + ":", good[:39] + "`", good[:39] + "\x00", strings.Repeat("é", 20)} {
		if id, e := sha.Parse(s); e != api.ErrForm || id != (api.Id{}) {
			t.Errorf("Parse(%q): %v %d", s, id, e)
		}
	}
}

// P2.3
func TestArgumentsStay(t *testing.T) {
	b := bytes.Repeat([]byte{7}, 100)
	was := bytes.Clone(b)
	sha.Sum(b[:10], b[10:60])
	if !bytes.Equal(b, was) {
		t.Error("b was changed")
	}
}
