package vault

import (
	"tramway/api"
	"tramway/copies"
	"tramway/halt"
)

// tree tells a change's files.
func (d *shop) tree(node api.Id) []File {
	v := d.load()
	x := d.side(v, d.log(changelog).at(node))
	var l []File
	for _, f := range x.files {
		files := d.fileLog(f.Path)
		text, _, e := copies.Parse(files.revs[files.at(f.Node)].Text)
		halt.On(e)
		l = append(l, File{f.Path, f.Flag, text})
	}
	return l
}
