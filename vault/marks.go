package vault

import (
	"strings"

	"tramway/api"
	"tramway/files"
	"tramway/lay"
	"tramway/sha"
)

const (
	marksFile = "bookmarks"
	mostName  = 200
)

// Marks tells the bookmarks.
func Marks(s *files.Store, front string) ([]Mark, api.Errno) {
	b, e := s.Read(lay.Under(front, marksFile))
	if e != api.OK {
		return nil, api.OK
	}
	var l []Mark
	for rest := string(b); rest != ""; {
		line, behind, ended := strings.Cut(rest, "\n")
		hex, name, ok := strings.Cut(line, " ")
		node, e := sha.Parse(hex)
		if !ended || !ok || e != api.OK {
			return nil, api.ErrForm
		}
		l = append(l, Mark{name, node})
		rest = behind
	}
	if !rightMarks(l) {
		return nil, api.ErrForm
	}
	return l, api.OK
}

// SetMarks lets the bookmarks be l.
func SetMarks(s *files.Store, front string, l []Mark) api.Errno {
	if !rightMarks(l) {
		return api.ErrForm
	}
	var text strings.Builder
	for _, m := range l {
		text.WriteString(sha.Hex(m.Node) + " " + m.Name + "\n")
	}
	return lay.Down(s, lay.Under(front, "tmp"), lay.Under(front, marksFile), []byte(text.String()))
}

func rightMarks(l []Mark) bool {
	for i, m := range l {
		if !rightName(m.Name) || i > 0 && l[i-1].Name >= m.Name {
			return false
		}
	}
	return true
}

func rightName(name string) bool {
	for _, c := range []byte(name) {
		if c <= ' ' {
			return false
		}
	}
	return name != "" && len(name) <= mostName
}
