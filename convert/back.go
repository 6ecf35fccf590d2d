package convert

import (
	"strings"

	"tramway/api"
	"tramway/commit"
	"tramway/halt"
	"tramway/object"
	"tramway/refs"
	"tramway/trans"
	"tramway/vault"
)

// back is a conversion of an hg side.
type back struct {
	trip
	vault vault.Vault
	marks []vault.Mark
	refs  []refs.Ref
}

func (b *back) goOn() {
	b.load()
	b.take()
	for i, node := range b.vault.Nodes {
		if _, marked := b.commits[node]; !marked {
			b.convert(i)
		}
	}
	b.setRefs()
}

// take takes the vault, its bookmarks, and the refs.
func (b *back) take() {
	var e api.Errno
	b.vault, e = vault.Load(b.s, b.hg)
	halt.On(e)
	b.marks, e = vault.Marks(b.s, b.hg)
	halt.On(e)
	nodes := map[api.Id]int{}
	for i, node := range b.vault.Nodes {
		nodes[node] = i
	}
	for _, m := range b.marks {
		_, there := nodes[m.Node]
		halt.Unless(there, api.ErrNone)
	}
	b.needNames()
	b.refs, e = refs.List(b.s, b.git)
	halt.On(e)
}

// needNames: may all bookmarks be refs, beside one another?
func (b *back) needNames() {
	known := map[string]int{}
	for i, m := range b.marks {
		halt.Unless(refs.Right(headsDir+m.Name), api.ErrArg)
		known[m.Name] = i
	}
	for _, m := range b.marks {
		for i := range len(m.Name) {
			if m.Name[i] == '/' {
				_, clash := known[m.Name[:i]]
				halt.Unless(!clash, api.ErrClash)
			}
		}
	}
}

// convert lets the change i become a commit.
func (b *back) convert(i int) {
	node, parents := b.vault.Nodes[i], b.vault.Parents[i]
	halt.Unless(parents[0] >= 0 || parents[1] < 0, api.ErrForm)
	l, e := vault.Tree(b.s, b.hg, node)
	halt.On(e)
	root := b.putTree(l)
	c, e := trans.Commit(b.vault.Changes[i])
	halt.On(e)
	c.Tree = root
	for _, p := range parents {
		if p >= 0 {
			c.Parents = append(c.Parents, b.commits[b.vault.Nodes[p]])
		}
	}
	body, e := commit.Print(c)
	halt.On(e)
	b.mark(b.put(object.Commit, body), node)
}

// setRefs lets the refs be as the bookmarks.
func (b *back) setRefs() {
	want := map[string]api.Id{}
	for _, m := range b.marks {
		want[headsDir+m.Name] = b.commits[m.Node]
	}
	have := map[string]api.Id{}
	for _, r := range b.refs {
		have[r.Name] = r.Id
		if _, wanted := want[r.Name]; strings.HasPrefix(r.Name, headsDir) && !wanted {
			halt.On(refs.Drop(b.s, b.git, r.Name))
		}
	}
	for _, m := range b.marks {
		name := headsDir + m.Name
		if id, there := have[name]; !there || id != want[name] {
			halt.On(refs.Set(b.s, b.git, name, want[name]))
		}
	}
}
