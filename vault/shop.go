package vault

import (
	"tramway/api"
	"tramway/files"
	"tramway/halt"
	"tramway/lay"
	"tramway/names"
	"tramway/revlog"
)

const (
	storeDir    = "store/"
	changelog   = storeDir + "00changelog.i"
	manifestLog = storeDir + "00manifest.i"
)

// log is one that was read.
type log struct {
	path  string
	b     []byte
	revs  []revlog.Rev
	nodes []api.Id
}

// shop is a vault's files, with the logs that were read.
type shop struct {
	s     *files.Store
	front string
	logs  map[string]*log
}

func newShop(s *files.Store, front string) *shop {
	return &shop{s, front, map[string]*log{}}
}

func (d *shop) path(name string) string { return lay.Under(d.front, name) }

func (d *shop) lay(path string, b []byte) {
	halt.On(lay.Down(d.s, d.path("tmp"), path, b))
}

// log is the one of that name; one that isn't there has no revisions.
func (d *shop) log(name string) *log {
	if l, ok := d.logs[name]; ok {
		return l
	}
	l := &log{path: d.path(name)}
	l.b, _ = d.s.Read(l.path)
	var e api.Errno
	l.revs, l.nodes, e = revlog.Read(l.b)
	halt.On(e)
	d.logs[name] = l
	return l
}

// fileLog is the one of a file's path.
func (d *shop) fileLog(path string) *log {
	name, e := names.Name(path)
	halt.On(e)
	return d.log(storeDir + name)
}

// at is where a node is in the log, if it is there.
func (l *log) at(node api.Id) int {
	i := revlog.Find(l.nodes, node)
	halt.Unless(i >= 0, api.ErrNone)
	return i
}

// node is that of the revision i; of -1 it is zero.
func (l *log) node(i int) api.Id {
	if i < 0 {
		return api.Id{}
	}
	return l.nodes[i]
}

// keep tells r's node, and adds r to the log, if that has none of this node.
func (d *shop) keep(l *log, r revlog.Rev) api.Id {
	node := revlog.Node(l.node(r.P1), l.node(r.P2), r.Text)
	if revlog.Find(l.nodes, node) >= 0 {
		return node
	}
	b, _, e := revlog.Add(l.b, r)
	halt.On(e)
	d.lay(l.path, b)
	l.b, l.revs, l.nodes = b, append(l.revs, r), append(l.nodes, node)
	return node
}
