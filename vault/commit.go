package vault

import (
	"bytes"

	"tramway/api"
	"tramway/change"
	"tramway/copies"
	"tramway/halt"
	"tramway/manifest"
	"tramway/revlog"
)

// side is a parent's manifest: which revision of the log it is, and its files.
type side struct {
	at    int
	files []manifest.File
	nodes map[string]api.Id // by paths
}

// commit adds a revision, and tells its node.
func (d *shop) commit(p, q api.Id, c change.Change, tree []File) api.Id {
	v := d.load()
	changes := d.log(changelog)
	p1, p2 := changes.parent(p), changes.parent(q)
	l := unnamed(tree)
	c.Manifest, c.Files = api.Id{}, nil
	needRight(l, c)
	halt.Unless(p1 >= 0 || p2 < 0, api.ErrForm)
	manifests := d.log(manifestLog)
	a, b := d.side(v, p1), d.side(v, p2)
	link := len(v.Nodes)
	for i, f := range tree {
		l[i].Node = d.fileNode(f, a, b, link)
	}
	text, e := manifest.Print(l)
	halt.On(e)
	c.Manifest = d.keep(manifests, revlog.Rev{P1: a.at, P2: b.at, Link: link, Text: text})
	c.Files = manifest.Diff(a.files, l)
	text, e = change.Print(c)
	halt.On(e)
	return d.keep(changes, revlog.Rev{P1: p1, P2: p2, Link: link, Text: text})
}

// parent is where a change's parent is in the changelog; -1 of the zero id.
func (l *log) parent(node api.Id) int {
	if node == (api.Id{}) {
		return -1
	}
	return l.at(node)
}

// unnamed are a tree's files without their nodes.
func unnamed(tree []File) []manifest.File {
	l := make([]manifest.File, len(tree))
	for i, f := range tree {
		l[i] = manifest.File{Path: f.Path, Flag: f.Flag}
	}
	return l
}

// needRight: may these files, and c, be committed?
func needRight(l []manifest.File, c change.Change) {
	_, e := manifest.Print(l)
	halt.On(e)
	_, e = change.Print(c)
	halt.On(e)
}

// side tells the manifest of the change i; of -1 it has no files.
func (d *shop) side(v Vault, i int) side {
	x := side{at: -1, nodes: map[string]api.Id{}}
	if i < 0 {
		return x
	}
	l := d.log(manifestLog)
	x.at = l.at(v.Changes[i].Manifest)
	var e api.Errno
	x.files, e = manifest.Parse(l.revs[x.at].Text)
	halt.On(e)
	for _, f := range x.files {
		x.nodes[f.Path] = f.Node
	}
	return x
}

// fileNode tells a file's node in a revision with parents that have the manifests p and q.
func (d *shop) fileNode(f File, p, q side, link int) api.Id {
	l := d.fileLog(f.Path)
	a, b := l.of(p, f.Path), l.of(q, f.Path)
	text, e := copies.Print(f.Text, copies.From{})
	halt.On(e)
	if a < 0 {
		a, b = b, -1
	}
	if a == b {
		b = -1
	}
	if a >= 0 && b < 0 && bytes.Equal(l.revs[a].Text, text) {
		return l.nodes[a]
	}
	return d.keep(l, revlog.Rev{P1: a, P2: b, Link: link, Text: text})
}

// of is which of the log's revisions the path has in a manifest; -1, if it isn't there.
func (l *log) of(x side, path string) int {
	node, ok := x.nodes[path]
	if !ok {
		return -1
	}
	return l.at(node)
}
