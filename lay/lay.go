// Package lay lays files down in a store, so that a crash leaves the old one whole or the new one: see
// shared/doc/13-odb.md, section Words.
package lay

import (
	"tramway/api"
	"tramway/files"
)

// Under is a name under a front, which may be nothing.
func Under(front, name string) string {
	if front == "" {
		return name
	}
	return front + "/" + name
}

// Down lets the file path hold b, by way of the file tmp. It tells the first error.
func Down(s *files.Store, tmp, path string, b []byte) api.Errno {
	if e := s.Write(tmp, 0, b); e != api.OK {
		return e
	}
	if e := s.Cut(tmp, len(b)); e != api.OK {
		return e
	}
	if e := s.Sync(tmp); e != api.OK {
		return e
	}
	return s.Rename(tmp, path)
}
