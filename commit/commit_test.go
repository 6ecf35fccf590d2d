package commit_test

import (
	"bytes"
	"math"
	"math/rand"
	"reflect"
	"strings"
	"testing"

	"tramway/api"
	"tramway/commit"
)

const zero = "0000000000000000000000000000000000000000"

var (
	ann = commit.Who{Name: "A", Mail: "a@b", Time: 12, Zone: "+0000"}
	bob = commit.Who{Name: "Bob B. Bobson", Mail: "", Time: 1<<62 - 1, Zone: "-9959"}
)

func whos() []commit.Who {
	return []commit.Who{ann, bob, {Zone: "+0000"}, {Name: " ", Mail: " ", Zone: "-0000"}, {Name: "a\x00\xff, b", Mail: "(,)", Time: 5, Zone: "+1234"}, {Name: "A ", Mail: " m ", Zone: "+0000"}}
}

func wrongWhos() []commit.Who {
	var l []commit.Who
	for _, s := range []string{"<", ">", "\n", "a<", "a > b", "x\n"} {
		l = append(l, commit.Who{Name: s, Zone: "+0000"}, commit.Who{Mail: s, Zone: "+0000"})
	}
	for _, n := range []int{-1, 1 << 62, math.MinInt, math.MaxInt} {
		l = append(l, commit.Who{Time: n, Zone: "+0000"})
	}
	for _, z := range []string{"", "0000", "+000", "+00000", "00000", "*0000", "+00:0", "+000a", "+-000", "+000\n", "+000/"} {
		l = append(l, commit.Who{Zone: z})
	}
	return l
}

// P11.1, P11.2
func TestPersons(t *testing.T) {
	if s, e := commit.Text(ann); s != "A <a@b> 12 +0000" || e != api.OK {
		t.Errorf("%q %d", s, e)
	}
	for _, w := range whos() {
		s, e := commit.Text(w)
		if got, f := commit.Person(s); got != w || e != api.OK || f != api.OK {
			t.Errorf("%v: %q %v %d %d", w, s, got, e, f)
		}
	}
	for _, w := range wrongWhos() {
		if s, e := commit.Text(w); s != "" || e != api.ErrForm {
			t.Errorf("Text(%v): %q %d", w, s, e)
		}
	}
	for _, s := range []string{"", "A", "A <a@b>", "A <a@b> 12", "A <a@b> 12 ", "A <a@b> 12 +000", "A<a@b> 12 +0000", "<a@b> 12 +0000", "A <a@b>12 +0000", "A <a@b> 012 +0000",
		"A <a@b> -1 +0000", "A <a@b>  12 +0000", "A <a@b> 12  +0000", "A <a@b> 12 +0000 ", "A <a@b> 12 +0000\n", "A <a<b> 12 +0000", "A <a>b> 12 +0000", "A> <a> 12 +0000", "A <a> 4611686018427387904 +0000"} {
		if w, e := commit.Person(s); w != (commit.Who{}) || e != api.ErrForm {
			t.Errorf("Person(%q): %v %d", s, w, e)
		}
	}
}

// commits are right ones.
func commits() []commit.Commit {
	l := []commit.Commit{
		{Author: ann, Committer: bob},
		{Tree: api.Id{1}, Parents: []api.Id{{2}, {3}, {2}}, Author: bob, Committer: ann, Message: "m\n\nparent x\n"},
		{Parents: []api.Id{{}}, Author: ann, Committer: ann, Message: "\x00\xff\r"},
		{Author: ann, Committer: ann, Message: "\n"},
		{Author: ann, Committer: ann, Message: " x"},
	}
	for _, v := range []string{"", "v", "x\ny", "\n", "\n\n", " x", "x\n y\n\n", "x \n", "author A <a> 1 +0000", "\x00"} {
		l = append(l, commit.Commit{Author: ann, Committer: bob, Extras: []commit.Extra{{Key: "k", Value: v}, {Key: "gpgsig", Value: "s" + v}, {Key: "k", Value: v}}, Message: v})
	}
	for _, k := range []string{"Tree", "trees", "x\x00", "object", "\t", "k:"} {
		l = append(l, commit.Commit{Author: ann, Committer: bob, Extras: []commit.Extra{{Key: k, Value: "v"}}})
	}
	for _, w := range whos() {
		l = append(l, commit.Commit{Author: w, Committer: ann}, commit.Commit{Author: ann, Committer: w})
	}
	return l
}

func same(a, b any) bool {
	return reflect.DeepEqual(a, b)
}

// P11.1
func TestPrint(t *testing.T) {
	c := commit.Commit{Tree: api.Id{0x12}, Parents: []api.Id{{0xab}, {}}, Author: ann, Committer: bob, Extras: []commit.Extra{{Key: "k", Value: "x\ny"}, {Key: "e"}}, Message: "m\nn"}
	want := "tree 12" + zero[2:] + "\nparent ab" + zero[2:] + "\nparent " + zero + "\nauthor A <a@b> 12 +0000\n" +
		"committer Bob B. Bobson <> 4611686018427387903 -9959\nk x\n y\ne \n\nm\nn"
	if b, e := commit.Print(c); string(b) != want || e != api.OK {
		t.Errorf("%q %d", b, e)
	}
	if got, e := commit.Parse([]byte(want)); !same(got, c) || e != api.OK {
		t.Errorf("%v %d", got, e)
	}
	var wrong []commit.Commit
	for _, w := range wrongWhos() {
		wrong = append(wrong, commit.Commit{Author: w, Committer: ann}, commit.Commit{Author: ann, Committer: w})
	}
	for _, k := range []string{"", " ", "a b", "a\n", "tree", "parent", "author", "committer"} {
		wrong = append(wrong, commit.Commit{Author: ann, Committer: bob, Extras: []commit.Extra{{Key: "k"}, {Key: k, Value: "v"}}})
	}
	for _, c := range append(wrong, commit.Commit{}) {
		if b, e := commit.Print(c); b != nil || e != api.ErrForm {
			t.Errorf("%v: %q %d", c, b, e)
		}
	}
}

// P11.2
func TestParseOfWrongBodies(t *testing.T) {
	tree, parent, author, committer := "tree "+zero+"\n", "parent "+zero+"\n", "author A <a> 1 +0000\n", "committer A <a> 1 +0000\n"
	for _, s := range []string{tree + author + committer + "\n", tree + parent + author + committer + "\nm", tree + author + committer + "x \n\n", tree + author + committer + "x y\n z\n\n"} {
		if _, e := commit.Parse([]byte(s)); e != api.OK {
			t.Errorf("%q: %d", s, e)
		}
	}
	for _, s := range []string{"", "\n", tree, tree[:45], tree + parent[:47], tree + parent + parent[:20], tree + author + committer, tree + author + committer + "m", parent + tree + author + committer + "\n", tree + tree + author + committer + "\n",
		tree + author + parent + committer + "\n", tree + committer + author + "\n", tree + author + "\n", author + committer + "\n", tree + author + committer + "x\n\n",
		tree + author + committer + " x\n\n", tree + author + committer + " \n\n", tree + author + committer + parent + "\n", tree + author + committer + "x y", tree + author + committer + "x y\n", tree + author + committer + "x\n y\n\n",
		tree + author + author + committer + "\n", tree + author + committer + committer + "\n", tree + author + committer + "tree x\n\n",
		"tree " + zero + "0\n" + author + committer + "\n", "tree " + zero[1:] + "\n" + author + committer + "\n", "tree  " + zero[1:] + "\n" + author + committer + "\n", "tree " + zero[1:] + "A\n" + author + committer + "\n",
		tree + "parent x\n" + author + committer + "\n", tree + "author A <a> 01 +0000\n" + committer + "\n", "Tree " + zero + "\n" + author + committer + "\n", "tree" + zero + "\n" + author + committer + "\n"} {
		if c, e := commit.Parse([]byte(s)); !same(c, commit.Commit{}) || e != api.ErrForm {
			t.Errorf("%q: %v %d", s, c, e)
		}
	}
}

func tags() []commit.Tag {
	return []commit.Tag{{Kind: 1, Name: "v1", Tagger: ann}, {Object: api.Id{7}, Kind: 2, Name: " ", Tagger: bob, Message: "m\n"}, {Kind: 3, Name: "\x00", Tagger: ann, Message: "\n\n"}, {Kind: 4, Name: "tag x", Tagger: ann, Message: "x"}}
}

// P11.1, P11.2
func TestTags(t *testing.T) {
	want := "object 07" + zero[2:] + "\ntype tree\ntag  \ntagger Bob B. Bobson <> 4611686018427387903 -9959\n\nm\n"
	if b, e := commit.PrintTag(tags()[1]); string(b) != want || e != api.OK {
		t.Errorf("%q %d", b, e)
	}
	for _, x := range tags() {
		b, e := commit.PrintTag(x)
		if got, f := commit.ParseTag(b); got != x || e != api.OK || f != api.OK {
			t.Errorf("%v: %q %v %d %d", x, b, got, e, f)
		}
	}
	wrong := []commit.Tag{{}, {Kind: 0, Name: "n", Tagger: ann}, {Kind: 5, Name: "n", Tagger: ann}, {Kind: 1, Tagger: ann}, {Kind: 1, Name: "a\nb", Tagger: ann}}
	for _, w := range wrongWhos() {
		wrong = append(wrong, commit.Tag{Kind: 1, Name: "n", Tagger: w})
	}
	for _, x := range wrong {
		if b, e := commit.PrintTag(x); b != nil || e != api.ErrForm {
			t.Errorf("%v: %q %d", x, b, e)
		}
	}
	object, kind, name, tagger := "object "+zero+"\n", "type blob\n", "tag n\n", "tagger A <a> 1 +0000\n"
	for _, s := range []string{"", object, object + kind + name + tagger, object + kind + name + "\n", kind + object + name + tagger + "\n", object + "type x\n" + name + tagger + "\n", object + "type \n" + name + tagger + "\n",
		object + kind + "tag \n" + tagger + "\n", object + kind + "tag\n" + tagger + "\n", object + kind + name + tagger + "x y\n\n", object + kind + name + tagger + "m", object + kind + name + "tagger A <a> 1 0000\n\n", "object x\n" + kind + name + tagger + "\n"} {
		if x, e := commit.ParseTag([]byte(s)); x != (commit.Tag{}) || e != api.ErrForm {
			t.Errorf("%q: %v %d", s, x, e)
		}
	}
}

// P11.3
func TestThereAndBack(t *testing.T) {
	seen := map[string]int{}
	for i, c := range commits() {
		b, e := commit.Print(c)
		if e != api.OK {
			t.Fatalf("%v: %d", c, e)
		}
		copied := bytes.Clone(b)
		got, e := commit.Parse(b)
		if !same(got, c) || e != api.OK {
			t.Errorf("%v: %q %v %d", c, b, got, e)
		}
		again, _ := commit.Print(got)
		if !bytes.Equal(again, b) {
			t.Errorf("%q: %q", b, again)
		}
		for i := range got.Parents {
			got.Parents[i][0]++
		}
		for i := range again {
			again[i]++
		}
		if !bytes.Equal(b, copied) {
			t.Error("the body was changed")
		}
		for k := range b {
			b[k] = 0
		}
		if len(got.Extras) != len(c.Extras) || got.Message != c.Message {
			t.Error("the answer lies in the argument")
		}
		if j, ok := seen[string(copied)]; ok && !same(commits()[j], c) {
			t.Errorf("%v and %v have one body", c, commits()[j])
		}
		seen[string(copied)] = i
	}
}

// P11.3: a body that is parsed is printed as it was, whatever it is.
func TestAnyBody(t *testing.T) {
	r := rand.New(rand.NewSource(1))
	all := commits()
	for range 60000 {
		b, _ := commit.Print(all[r.Intn(len(all))])
		for range 1 + r.Intn(2) {
			at := r.Intn(len(b))
			switch r.Intn(3) {
			case 0:
				b[at] = "\n <>0a+-"[r.Intn(8)]
			case 1:
				b = append(b[:at:at], b[at+1:]...)
			default:
				b = append(b[:at:at], append([]byte{"\n <>0a+-"[r.Intn(8)]}, b[at:]...)...)
			}
		}
		c, e := commit.Parse(b)
		again, f := commit.Print(c)
		if e == api.OK && (f != api.OK || !bytes.Equal(again, b)) || e != api.OK && (e != api.ErrForm || !same(c, commit.Commit{})) {
			t.Fatalf("%q: %v %d", b, c, e)
		}
	}
}

// P11.2: a long value of many lines is read at once.
func TestLongValue(t *testing.T) {
	c := commit.Commit{Author: ann, Committer: ann, Extras: []commit.Extra{{Key: "k", Value: strings.Repeat("\n", 1<<20)}}}
	b, _ := commit.Print(c)
	if got, e := commit.Parse(b); e != api.OK || !same(got, c) {
		t.Errorf("%d", e)
	}
}
