package change_test

import (
	"bytes"
	"math"
	"math/rand"
	"reflect"
	"slices"
	"strings"
	"testing"

	"tramway/api"
	"tramway/change"
	"tramway/sha"
)

type extras = []change.Extra

var zero = strings.Repeat("0", 40)

// rightOnes are Changes and their texts.
func rightOnes() map[string]change.Change {
	hundred := strings.Repeat("k", 100)
	return map[string]change.Change{
		zero + "\nu\n0 0\n\n":                                                            {User: "u"},
		zero + "\nu\n0 0 branch:x\na\n\nd":                                               {User: "u", Extras: extras{{Key: "branch", Value: "x"}}, Files: []string{"a"}, Desc: "d"},
		"07" + zero[2:] + "\nA <a>\n5 -3600\na\nb/c\n\nd\n\ne\n":                         {Manifest: api.Id{7}, User: "A <a>", Time: 5, Zone: -3600, Files: []string{"a", "b/c"}, Desc: "d\n\ne\n"},
		zero + "\n \n4611686018427387903 86399\n\n\n":                                    {User: " ", Time: 1<<62 - 1, Zone: 86399, Desc: "\n"},
		zero + "\nu\x00\r\xff\n0 -86399\n\n\x00\xff":                                     {User: "u\x00\r\xff", Zone: -86399, Desc: "\x00\xff"},
		zero + "\nu\n0 0 09AZaz-_:\n\n":                                                  {User: "u", Extras: extras{{Key: "09AZaz-_"}}},
		zero + "\nu\n0 0 a:\n\n":                                                         {User: "u", Extras: extras{{Key: "a"}}},
		zero + "\nu\n0 0 -:x:y\x00A_9:\\\\n\\n\\r\\0\\\\\\\\\x00" + hundred + ": z \n\n": {User: "u", Extras: extras{{Key: "-", Value: "x:y"}, {Key: "A_9", Value: "\\n\n\r\x00\\\\"}, {Key: hundred, Value: " z "}}},
		zero + "\nu\n0 0\n a \nb\tc\n\n":                                                 {User: "u", Files: []string{" a ", "b\tc"}},
	}
}

// P19.1
func TestPrintAndParse(t *testing.T) {
	for text, c := range rightOnes() {
		if b, e := change.Print(c); string(b) != text || e != api.OK {
			t.Errorf("Print(%v): %q %d, want %q", c, b, e, text)
		}
		if got, e := change.Parse([]byte(text)); !reflect.DeepEqual(got, c) || e != api.OK {
			t.Errorf("Parse(%q): %v %d", text, got, e)
		}
	}
}

// P19.1
func TestWrongOnes(t *testing.T) {
	for _, c := range []change.Change{
		{}, {User: "a\nb"}, {User: "\n"}, {User: "u", Time: -1}, {User: "u", Time: 1 << 62}, {User: "u", Time: math.MinInt}, {User: "u", Zone: 86400}, {User: "u", Zone: -86400}, {User: "u", Zone: math.MinInt},
		{User: "u", Extras: extras{{Key: ""}}}, {User: "u", Extras: extras{{Key: strings.Repeat("k", 101)}}}, {User: "u", Extras: extras{{Key: "a b"}}}, {User: "u", Extras: extras{{Key: "a:"}}}, {User: "u", Extras: extras{{Key: "é"}}}, {User: "u", Extras: extras{{Key: "a."}}},
		{User: "u", Extras: extras{{Key: "b"}, {Key: "a"}}}, {User: "u", Extras: extras{{Key: "a"}, {Key: "a"}}}, {User: "u", Files: []string{""}}, {User: "u", Files: []string{"a//b"}}, {User: "u", Files: []string{"a\n"}},
		{User: "u", Files: []string{"b", "a"}}, {User: "u", Files: []string{"a", "a"}},
	} {
		if b, e := change.Print(c); b != nil || e != api.ErrForm {
			t.Errorf("Print(%v): %q %d", c, b, e)
		}
	}
	for _, k := range []byte{'@', '[', '`', '{', '/', ':', ',', '.', '^', 0} {
		if _, e := change.Print(change.Change{User: "u", Extras: extras{{Key: string([]byte{k})}}}); e != api.ErrForm {
			t.Errorf("the key %q: %d", k, e)
		}
	}
}

// P19.1
func TestParseOfWrongTexts(t *testing.T) {
	for _, s := range []string{"", "\n", zero, zero + "\nu", zero + "\nu\n0 0", zero + "\nu\n0 0\n", zero + "\nu\n0 0\na", zero + "\nu\n0 0\na\n", zero + "\n\n0 0\n\n", zero[1:] + "\nu\n0 0\n\n", zero[1:] + "A\nu\n0 0\n\n", " " + zero + "\nu\n0 0\n\n",
		zero + "\nu\n0\n\n", zero + "\nu\n0 \n\n", zero + "\nu\n0 0 \n\n", zero + "\nu\n0  0\n\n", zero + "\nu\n 0 0\n\n", zero + "\nu\n00 0\n\n", zero + "\nu\n0 -0\n\n", zero + "\nu\n0 00\n\n", zero + "\nu\n0 +1\n\n", zero + "\nu\n-1 0\n\n", zero + "\nu\n-0 0\n\n", zero + "\nu\n0 86400\n\n", zero + "\nu\n0 --1\n\n",
		zero + "\nu\n4611686018427387904 0\n\n", zero + "\nu\n0 0 a\n\n", zero + "\nu\n0 0 a:b\x00\n\n", zero + "\nu\n0 0 \x00a:b\n\n", zero + "\nu\n0 0 b:\x00a:\n\n", zero + "\nu\n0 0 a:\x00a:\n\n", zero + "\nu\n0 0 :x\n\n", zero + "\nu\n0 0 a:\\\n\n", zero + "\nu\n0 0 a:\\x\n\n", zero + "\nu\n0 0 a:\r\n\n", zero + "\nu\n0 0 a:\\\\\\\n\n",
		zero + "\nu\n0 0\nb\na\n\n", zero + "\nu\n0 0\na\na\n\n", zero + "\nu\n0 0\n.\n\n", zero + "\nu\n0 0\na/\n\n", zero + "\nu\n0 0\na\x00\n\n"} {
		if c, e := change.Parse([]byte(s)); !reflect.DeepEqual(c, change.Change{}) || e != api.ErrForm {
			t.Errorf("Parse(%q): %v %d", s, c, e)
		}
	}
}

// P19.2
func TestValue(t *testing.T) {
	c := change.Change{Extras: extras{{Key: "b", Value: "1"}, {Key: "a", Value: "2"}, {Key: "b", Value: "3"}, {Key: "", Value: "4"}}}
	for key, want := range map[string]string{"b": "1", "a": "2", "": "4"} {
		if got, ok := change.Value(c, key); got != want || !ok {
			t.Errorf("Value of %q: %q %v", key, got, ok)
		}
	}
	if got, ok := change.Value(c, "c"); got != "" || ok {
		t.Errorf("Value of none: %q %v", got, ok)
	}
	if got, ok := change.Value(change.Change{}, ""); got != "" || ok {
		t.Errorf("Value in none: %q %v", got, ok)
	}
}

// P19.1: what is parsed is printed as it was, whatever it is.
func TestAnyText(t *testing.T) {
	r := rand.New(rand.NewSource(1))
	var all []string
	for text := range rightOnes() {
		all = append(all, text)
	}
	slices.Sort(all)
	for range 50000 {
		b := []byte(all[r.Intn(len(all))])
		at := r.Intn(len(b))
		if r.Intn(2) == 0 {
			b[at] = "\x00\n\\:- 0an"[r.Intn(9)]
		} else {
			b = append(b[:at:at], append([]byte{"\x00\n\\:- 0an"[r.Intn(9)]}, b[at:]...)...)
		}
		c, e := change.Parse(b)
		if again, _ := change.Print(c); e == api.OK && !bytes.Equal(again, b) || e != api.OK && e != api.ErrForm {
			t.Fatalf("Parse(%q): %v %d", b, c, e)
		}
	}
}

// P19.3
func TestMemory(t *testing.T) {
	c := change.Change{User: "u", Files: append(make([]string, 0, 9), "a"), Extras: extras{{Key: "k", Value: "v"}}}
	b, _ := change.Print(c)
	got, _ := change.Parse(b)
	for i := range b {
		b[i] = 0
	}
	if !reflect.DeepEqual(got, c) || c.Files[:2][1] != "" || sha.Hex(got.Manifest) != zero {
		t.Error("an argument was changed, or an answer lies in one")
	}
	got.Files[0], got.Extras[0].Key = "b", "l"
	if c.Files[0] != "a" || c.Extras[0].Key != "k" {
		t.Error("answers share memory")
	}
}
