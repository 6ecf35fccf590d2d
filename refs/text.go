package refs

import (
	"strings"

	"tramway/api"
	"tramway/sha"
)

const (
	mostName   = 200
	namesDir   = "refs/"
	headFile   = "HEAD"
	headFront  = "ref: "
	packedFile = "packed-refs"
	hexSize    = 2 * len(api.Id{})
)

// Right tells whether name is one.
func Right(name string) bool {
	if !strings.HasPrefix(name, namesDir) || len(name) > mostName || strings.HasSuffix(name, ".") {
		return false
	}
	if strings.Contains(name, "..") || strings.Contains(name, "@{") {
		return false
	}
	for _, c := range []byte(name) {
		if c < 33 || c == 127 || strings.IndexByte("~^:?*[\\", c) >= 0 {
			return false
		}
	}
	for _, part := range strings.Split(name, "/") {
		if part == "" || part[0] == '.' || strings.HasSuffix(part, ".lock") {
			return false
		}
	}
	return true
}

// ParsePacked tells packed refs.
func ParsePacked(b []byte) ([]Ref, api.Errno) {
	var l []Ref
	for rest := string(b); rest != ""; {
		line, behind, ended := strings.Cut(rest, "\n")
		hex, name, ok := strings.Cut(line, " ")
		id, e := sha.Parse(hex)
		if !ended || !ok || e != api.OK {
			return nil, api.ErrForm
		}
		l = append(l, Ref{name, id})
		rest = behind
	}
	if !rightPacked(l) {
		return nil, api.ErrForm
	}
	return l, api.OK
}

// PrintPacked tells refs as packed ones.
func PrintPacked(l []Ref) ([]byte, api.Errno) {
	if !rightPacked(l) {
		return nil, api.ErrForm
	}
	var s strings.Builder
	for _, r := range l {
		s.WriteString(sha.Hex(r.Id) + " " + r.Name + "\n")
	}
	return []byte(s.String()), api.OK
}

func rightPacked(l []Ref) bool {
	for i, r := range l {
		if !Right(r.Name) || i > 0 && l[i-1].Name >= r.Name {
			return false
		}
	}
	return true
}

func printId(id api.Id) []byte { return []byte(sha.Hex(id) + "\n") }

func parseId(b []byte) (api.Id, api.Errno) {
	if len(b) != hexSize+1 || b[hexSize] != '\n' {
		return api.Id{}, api.ErrForm
	}
	return sha.Parse(string(b[:hexSize]))
}
