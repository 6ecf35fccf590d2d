package copies_test

import (
	"bytes"
	"math/rand"
	"strings"
	"testing"

	"tramway/api"
	"tramway/copies"
	"tramway/sha"
)

var node = api.Id{0x12, 0xab}

const mark = "\x01\n"

func told(path string, text string) string {
	return mark + "copy: " + path + "\ncopyrev: " + sha.Hex(node) + "\n" + mark + text
}

// right are texts with what is told of them.
var right = []struct {
	text string
	from copies.From
	want string
}{
	{"", copies.From{}, ""}, {"x", copies.From{}, "x"}, {"\x01", copies.From{}, "\x01"}, {"x" + mark, copies.From{}, "x" + mark}, {"\x01\r\n", copies.From{}, "\x01\r\n"},
	{mark, copies.From{}, mark + mark + mark}, {mark + "x", copies.From{}, mark + mark + mark + "x"}, {mark + mark, copies.From{}, mark + mark + mark + mark},
	{told("a", "x"), copies.From{}, mark + mark + told("a", "x")},
	{"x", copies.From{Path: "a", Node: node}, told("a", "x")}, {"", copies.From{Path: "a b/c", Node: node}, told("a b/c", "")}, {mark, copies.From{Path: "copy: ", Node: node}, told("copy: ", mark)},
	{"x", copies.From{Path: "a"}, mark + "copy: a\ncopyrev: " + strings.Repeat("0", 40) + "\n" + mark + "x"},
}

// P20.1 to P20.3
func TestPrintAndParse(t *testing.T) {
	for _, c := range right {
		text := []byte(c.text)
		b, e := copies.Print(text, c.from)
		if string(b) != c.want || e != api.OK {
			t.Errorf("Print(%q, %v): %q %d", c.text, c.from, b, e)
		}
		got, from, e := copies.Parse(b)
		if string(got) != c.text || from != c.from || e != api.OK {
			t.Errorf("Parse(%q): %q %v %d", b, got, from, e)
		}
		for i := range got {
			got[i] = '!'
		}
		if string(b) != c.want {
			t.Errorf("Parse(%q): the answer lies in the argument", c.want)
		}
		for i := range b {
			b[i] = '!'
		}
		if string(text) != c.text {
			t.Errorf("Print(%q): the answer lies in the argument", c.text)
		}
	}
}

// P20.1
func TestPrintOfWrongCopies(t *testing.T) {
	for _, path := range []string{"", "/", "a/", "..", "a\n", "a\x00", "a\r", strings.Repeat("a", 256)} {
		if b, e := copies.Print([]byte("x"), copies.From{Path: path, Node: node}); b != nil || e != api.ErrForm {
			t.Errorf("%q: %q %d", path, b, e)
		}
	}
}

// P20.2
func TestParseOfWrongTexts(t *testing.T) {
	good := told("a", "x")
	for _, s := range []string{mark, mark + "x", mark + mark, mark + mark + "x", mark + mark + "\x01", mark + "copy: a\n" + mark, good[:len(good)-2], good[:10], mark + good, strings.Replace(good, "copyrev: ", "copyrev:", 1), strings.Replace(good, "copy: ", "copy:", 1),
		strings.Replace(good, "12ab", "12AB", 1), strings.Replace(good, "12ab", "12a", 1), strings.Replace(good, "12ab", "12abc", 1), told("", "x"), told("a//b", "x"), told("a\x00", "x"), told(".", "x"), mark + "copy: \ncopyrev: " + strings.Repeat("0", 40) + "\n" + mark + "x",
		mark + "copy: a\ncopyrev: " + sha.Hex(node) + "\nother: b\n" + mark + "x", mark + "other: b\n" + mark, mark + "copyrev: " + sha.Hex(node) + "\ncopy: a\n" + mark} {
		if text, from, e := copies.Parse([]byte(s)); text != nil || from != (copies.From{}) || e != api.ErrForm {
			t.Errorf("Parse(%q): %q %v %d", s, text, from, e)
		}
	}
}

// P20.2: what is parsed is printed as it was, whatever it is.
func TestAnyBytes(t *testing.T) {
	r := rand.New(rand.NewSource(1))
	for range 30000 {
		b := []byte(right[5+r.Intn(len(right)-5)].want)
		b[r.Intn(len(b))] = "\x00\x01\n ax0/"[r.Intn(8)]
		text, from, e := copies.Parse(b)
		if again, _ := copies.Print(text, from); e == api.OK && !bytes.Equal(again, b) || e != api.OK && e != api.ErrForm {
			t.Fatalf("Parse(%q): %q %v %d", b, text, from, e)
		}
	}
}
