package trans_test

import (
	"reflect"
	"strings"
	"testing"

	"tramway/api"
	"tramway/change"
	"tramway/commit"
	"tramway/trans"
)

var zero = strings.Repeat("0", 40)

// body is a commit's, with a zero tree, no parents and no message, as the document says it.
func body(c commit.Commit) string {
	c.Tree, c.Parents, c.Message = api.Id{}, nil, ""
	b, _ := commit.Print(c)
	return string(b)
}

// words are a change's, as the document says them.
func words(x change.Change) string {
	b, _ := change.Print(x)
	date := strings.Split(strings.Split(string(b), "\n")[2], " ")
	s := x.User + "\n" + date[0] + " " + date[1] + "\n"
	for _, e := range x.Extras {
		s += e.Key + " " + strings.Join(strings.Split(e.Value, "\n"), "\n ") + "\n"
	}
	return s
}

// over is the change that tells a commit by an Extra git.
func over(c commit.Commit) change.Change {
	return change.Change{User: c.Author.Name + " <" + c.Author.Mail + ">", Time: c.Author.Time, Desc: c.Message, Extras: []change.Extra{{Key: "git", Value: body(c)}}}
}

// marked is the commit that tells a change by an Extra hg.
func marked(x change.Change) commit.Commit {
	hg := commit.Who{Name: "hg", Mail: "hg", Time: x.Time, Zone: "+0000"}
	return commit.Commit{Author: hg, Committer: hg, Message: x.Desc, Extras: []commit.Extra{{Key: "hg", Value: words(x)}}}
}

var (
	ann = commit.Who{Name: "A", Mail: "a", Time: 5, Zone: "+0000"}
	bob = commit.Who{Name: "", Mail: "", Time: 1<<62 - 1, Zone: "-1234"}
	hg  = commit.Who{Name: "hg", Mail: "hg", Time: 7, Zone: "+0000"}
)

func plainCommits() []commit.Commit {
	l := []commit.Commit{
		{Author: ann, Committer: ann}, {Author: ann, Committer: bob, Message: "m\n\n\x00\xff"}, {Author: bob, Committer: ann, Message: "\n"}, {Author: hg, Committer: hg},
		{Author: ann, Committer: ann, Extras: []commit.Extra{{Key: "gpgsig", Value: "a\n\nb\n"}, {Key: "hg", Value: "u\n0 0\n"}}}, {Author: hg, Committer: hg, Extras: []commit.Extra{{Key: "git", Value: "x"}}},
	}
	for _, v := range []string{"", "u\n7 0\n", "u\n7 0", "u\n7 -0\n", "u\n07 0\n", "u\n7 0\n\n", "\n7 0\n", "u\n7 86400\n", "u\n7 0\nk v\n", "u\n7 0\nk v", "u\n7 0\nk \n", "u\n7 0\nk v\n w\n", "u\n7 0\nb v\na v\n", "u\n7 0\nk\n", "u\n7  0\n", "u\n8 0\n", "u\n7 -5\na x\nb y\n", "u\n7 0\n k v\n"} {
		for _, who := range []commit.Who{hg, ann} {
			l = append(l, commit.Commit{Author: who, Committer: hg, Extras: []commit.Extra{{Key: "hg", Value: v}}, Message: "d"}, commit.Commit{Author: hg, Committer: who, Extras: []commit.Extra{{Key: "hg", Value: v}, {Key: "hg", Value: v}}})
		}
	}
	return l
}

func plainChanges() []change.Change {
	l := []change.Change{{User: "u", Time: 7}, {User: "u", Time: 7, Zone: -3600, Desc: "d\n\x00", Extras: []change.Extra{{Key: "branch", Value: "x\n\ny\n"}, {Key: "k"}}}, {User: "A <a>", Time: 5}, {User: " ", Zone: 86399, Time: 1<<62 - 1}}
	for _, v := range []string{"", "x", body(plainCommits()[0]), body(plainCommits()[1]), body(plainCommits()[0]) + "m", "tree 1" + body(plainCommits()[0])[6:], strings.Replace(body(plainCommits()[0]), "\nauthor", "\nparent "+zero+"\nauthor", 1)} {
		for _, user := range []string{"A <a>", "u", " <>"} {
			l = append(l, change.Change{User: user, Time: 5, Extras: []change.Extra{{Key: "git", Value: v}}, Desc: "d"}, change.Change{User: user, Time: 5, Zone: 1, Extras: []change.Extra{{Key: "git", Value: v}}},
				change.Change{User: user, Time: 5, Extras: []change.Extra{{Key: "git", Value: v}, {Key: "hg", Value: ""}}}, change.Change{User: user, Time: 6, Extras: []change.Extra{{Key: "git", Value: v}}})
		}
	}
	return l
}

// nested are commits and changes that tell one another, some levels deep.
func nested() ([]commit.Commit, []change.Change) {
	commits, changes := plainCommits(), plainChanges()
	from, too := commits, changes
	for range 5 {
		var c []commit.Commit
		var x []change.Change
		for _, one := range from {
			x = append(x, over(one))
		}
		for _, one := range too {
			c = append(c, marked(one))
		}
		commits, changes = append(commits, c...), append(changes, x...)
		from, too = c, x
	}
	return commits, changes
}

// P23.1: those that tell nothing but themselves.
func TestPlain(t *testing.T) {
	c := commit.Commit{Tree: api.Id{1}, Parents: []api.Id{{2}, {3}}, Author: ann, Committer: bob, Message: "m", Extras: []commit.Extra{{Key: "k", Value: "x\ny"}}}
	want := change.Change{User: "A <a>", Time: 5, Desc: "m", Extras: []change.Extra{{Key: "git", Value: "tree " + zero + "\nauthor A <a> 5 +0000\ncommitter  <> 4611686018427387903 -1234\nk x\n y\n\n"}}}
	if x, e := trans.Change(c); !reflect.DeepEqual(x, want) || e != api.OK {
		t.Errorf("%v %d", x, e)
	}
	c.Tree, c.Parents = api.Id{}, nil
	if got, e := trans.Commit(want); !reflect.DeepEqual(got, c) || e != api.OK {
		t.Errorf("%v %d", got, e)
	}
	x := change.Change{Manifest: api.Id{1}, User: "u", Time: 7, Zone: -60, Files: []string{"a"}, Desc: "d", Extras: []change.Extra{{Key: "branch", Value: "x\n\ny"}, {Key: "git", Value: body(c)}}}
	wantCommit := commit.Commit{Author: hg, Committer: hg, Message: "d", Extras: []commit.Extra{{Key: "hg", Value: "u\n7 -60\nbranch x\n \n y\ngit " + strings.ReplaceAll(body(c), "\n", "\n ") + "\n"}}}
	if got, e := trans.Commit(x); !reflect.DeepEqual(got, wantCommit) || e != api.OK {
		t.Errorf("%v %d", got, e)
	}
	x.Manifest, x.Files = api.Id{}, nil
	if got, e := trans.Change(wantCommit); !reflect.DeepEqual(got, x) || e != api.OK {
		t.Errorf("%v %d", got, e)
	}
}

// P23.1: a marked commit that is no change's commit is told as it is; so is a change.
func TestThoseThatOnlyLookSo(t *testing.T) {
	rightWords := map[string]bool{"u\n7 0\n": true, "u\n7 0\nk v\n": true, "u\n7 0\nk \n": true, "u\n7 0\nk v\n w\n": true, "u\n7 -5\na x\nb y\n": true}
	for _, c := range plainCommits()[4:] {
		x, e := trans.Change(c)
		good := len(c.Extras) == 1 && c.Extras[0].Key == "hg" && c.Author == hg && c.Committer == hg && rightWords[c.Extras[0].Value]
		if plain := reflect.DeepEqual(x, over(c)); e != api.OK || plain == good {
			t.Errorf("%v: %v %d", c, x, e)
		}
	}
	for _, x := range plainChanges() {
		c, e := trans.Commit(x)
		bodies := map[string]bool{body(plainCommits()[0]): true, body(plainCommits()[1]): true}
		good := len(x.Extras) == 1 && bodies[x.Extras[0].Value] && x.User == "A <a>" && x.Time == 5 && x.Zone == 0
		if plain := reflect.DeepEqual(c, marked(x)); e != api.OK || plain == good {
			t.Errorf("%v: %v %d", x, c, e)
		}
	}
}

// P23.1
func TestErrors(t *testing.T) {
	for _, c := range []commit.Commit{{}, {Author: ann}, {Author: commit.Who{Name: "<", Zone: "+0000"}, Committer: ann}, {Author: ann, Committer: ann, Extras: []commit.Extra{{Key: "tree"}}}} {
		if x, e := trans.Change(c); !reflect.DeepEqual(x, change.Change{}) || e != api.ErrForm {
			t.Errorf("%v: %v %d", c, x, e)
		}
	}
	for _, x := range []change.Change{{}, {User: "a\nb"}, {User: "u", Time: -1}, {User: "u", Zone: 86400}, {User: "u", Extras: []change.Extra{{Key: "b"}, {Key: "a"}}}} {
		if c, e := trans.Commit(x); !reflect.DeepEqual(c, commit.Commit{}) || e != api.ErrForm {
			t.Errorf("%v: %v %d", x, c, e)
		}
	}
	if _, e := trans.Commit(change.Change{User: "u", Files: []string{"no/", "path"}}); e != api.OK {
		t.Errorf("files don't count: %d", e)
	}
}

// P23.2: there and back; unlike ones have unlike ones.
func TestThereAndBack(t *testing.T) {
	commits, changes := nested()
	seen := map[string]int{}
	for i, c := range commits {
		x, e := trans.Change(c)
		if e != api.OK {
			t.Fatalf("%v: %d", c, e)
		}
		back, e := trans.Commit(x)
		if e != api.OK || !reflect.DeepEqual(back, c) {
			t.Fatalf("%v: by %v %v", c, x, back)
		}
		b, _ := change.Print(x)
		if j, ok := seen[string(b)]; ok && !reflect.DeepEqual(commits[j], c) {
			t.Fatalf("%v and %v have one change", commits[j], c)
		}
		seen[string(b)] = i
	}
	seen = map[string]int{}
	for i, x := range changes {
		c, e := trans.Commit(x)
		if e != api.OK {
			t.Fatalf("%v: %d", x, e)
		}
		back, e := trans.Change(c)
		if e != api.OK || !reflect.DeepEqual(back, x) {
			t.Fatalf("%v: by %v %v", x, c, back)
		}
		b, _ := commit.Print(c)
		if j, ok := seen[string(b)]; ok && !reflect.DeepEqual(changes[j], x) {
			t.Fatalf("%v and %v have one commit", changes[j], x)
		}
		seen[string(b)] = i
	}
}

// P23.1: what is told in a text that is told in a text, and so on.
func TestDeep(t *testing.T) {
	c := commit.Commit{Author: hg, Committer: hg}
	for range 150 {
		c = marked(over(c))
	}
	x, e := trans.Change(c)
	if e != api.OK {
		t.Fatal(e)
	}
	if back, e := trans.Commit(x); e != api.OK || !reflect.DeepEqual(back, c) {
		t.Error("not the commit")
	}
}

// P23.3
func TestMemory(t *testing.T) {
	c := commit.Commit{Tree: api.Id{1}, Parents: []api.Id{{2}}, Author: ann, Committer: ann, Extras: []commit.Extra{{Key: "k", Value: "v"}}}
	x, _ := trans.Change(c)
	y := change.Change{Manifest: api.Id{1}, User: "u", Files: []string{"a"}, Extras: []change.Extra{{Key: "k", Value: "v"}}}
	back, _ := trans.Commit(y)
	x.Extras[0].Key, back.Extras[0].Key = "z", "z"
	if c.Tree != (api.Id{1}) || len(c.Parents) != 1 || c.Extras[0].Key != "k" || y.Manifest != (api.Id{1}) || len(y.Files) != 1 || y.Extras[0].Key != "k" {
		t.Error("an argument was changed")
	}
}
