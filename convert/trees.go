package convert

import (
	"slices"
	"strings"

	"tramway/api"
	"tramway/halt"
	"tramway/names"
	"tramway/object"
	"tramway/odb"
	"tramway/tree"
	"tramway/vault"
)

// The modes of entries.
const (
	modeTree   = 0o40000
	modeFile   = 0o100644
	modeRun    = 0o100755
	modeLink   = 0o120000
	modeCommit = 0o160000
)

// flagOf is the flag of an entry that is a file or a link.
func flagOf(mode int) string {
	switch mode {
	case modeRun:
		return "x"
	case modeLink:
		return "l"
	}
	return ""
}

func modeOf(flag string) int {
	switch flag {
	case "x":
		return modeRun
	case "l":
		return modeLink
	}
	return modeFile
}

// get tells the body of a tree or a blob.
func (f *forward) get(kind int, id api.Id) []byte {
	x, ok := f.things[id]
	if !ok {
		var e api.Errno
		x.kind, x.body, e = odb.Get(f.s, f.git, id)
		halt.On(e)
		f.things[id] = x
	}
	halt.Unless(x.kind == kind, api.ErrForm)
	return x.body
}

// flat tells a tree's files, rising by paths.
func (f *forward) flat(root api.Id) []vault.File {
	var l []vault.File
	var within func(id api.Id, front string)
	within = func(id api.Id, front string) {
		entries, e := tree.Parse(f.get(object.Tree, id))
		halt.On(e)
		halt.Unless(front == "" || len(entries) > 0, api.ErrForm)
		for _, x := range entries {
			path := front + x.Name
			switch x.Mode {
			case modeTree:
				within(x.Id, path+"/")
			case modeCommit:
				halt.With(api.ErrArg)
			default:
				text := f.get(object.Blob, x.Id)
				halt.Unless(names.Right(path), api.ErrArg)
				l = append(l, vault.File{Path: path, Flag: flagOf(x.Mode), Text: text})
			}
		}
	}
	within(root, "")
	slices.SortFunc(l, func(a, b vault.File) int { return strings.Compare(a.Path, b.Path) })
	return l
}

// put lays an object down.
func (b *back) put(kind int, body []byte) api.Id {
	id, e := odb.Put(b.s, b.git, kind, body)
	halt.On(e)
	return id
}

// putTree lays a tree's objects down, and tells the root's id.
func (b *back) putTree(l []vault.File) api.Id {
	var put func(l []vault.File, skip int) api.Id
	// Of all files of a directory, whose own path has so many bytes.
	put = func(l []vault.File, skip int) api.Id {
		var entries []tree.Entry
		for rest := l; len(rest) > 0; {
			name, n := directory(rest, skip)
			if name != "" {
				entries = append(entries, tree.Entry{Mode: modeTree, Name: name, Id: put(rest[:n], skip+len(name)+1)})
			}
			rest = rest[n:]
		}
		for _, x := range l {
			if name := x.Path[skip:]; !strings.Contains(name, "/") {
				entries = append(entries, tree.Entry{Mode: modeOf(x.Flag), Name: name, Id: b.put(object.Blob, x.Text)})
			}
		}
		body, e := tree.Print(tree.Sort(entries))
		halt.On(e)
		return b.put(object.Tree, body)
	}
	return put(l, 0)
}

// directory tells the name of the one that the first file lies in, behind so many bytes of its path, and how many
// files lie in it, one behind the other; a file that lies in none stands alone.
func directory(l []vault.File, skip int) (string, int) {
	name, _, within := strings.Cut(l[0].Path[skip:], "/")
	if !within {
		return "", 1
	}
	n := 1
	for n < len(l) && strings.HasPrefix(l[n].Path[skip:], name+"/") {
		n++
	}
	return name, n
}
