package files

import (
	"strings"

	"tramway/api"
)

func right(path string) bool {
	if len(path) > api.MaxPath || strings.IndexByte(path, 0) >= 0 {
		return false
	}
	for _, name := range strings.Split(path, "/") {
		if name == "" || name == "." || name == ".." {
			return false
		}
	}
	return true
}

// directories are those that path lies in.
func directories(path string) []string {
	var l []string
	for i := range len(path) {
		if path[i] == '/' {
			l = append(l, path[:i])
		}
	}
	return l
}

// clashes: may no file that isn't there have that path beside the others?
func (s *Store) clashes(path string) bool {
	for _, d := range directories(path) {
		if s.files[d] != nil {
			return true
		}
	}
	return s.under[path] > 0
}

func (s *Store) put(path string, f *file) {
	if s.files == nil {
		s.files, s.under = map[string]*file{}, map[string]int{}
	}
	s.files[path] = f
	for _, d := range directories(path) {
		s.under[d]++
	}
}

func (s *Store) take(path string) {
	delete(s.files, path)
	for _, d := range directories(path) {
		s.under[d]--
		if s.under[d] == 0 {
			delete(s.under, d)
		}
	}
}

// off: is there no store that may be changed?
func (s *Store) off() bool { return s == nil || s.down }

// done counts a change that is OK.
func (s *Store) done() api.Errno {
	if s.armed {
		s.left--
		s.down = s.left <= 0
	}
	return api.OK
}

// Arm lets the power go behind n further changes that are OK.
func (s *Store) Arm(n int) {
	if s.off() {
		return
	}
	s.armed, s.left = true, n
	s.down = n <= 0
}

// Crash leaves of each file what was kept, and so many of its changes that weren't yet.
func (s *Store) Crash(keep ...int) {
	if s == nil {
		return
	}
	s.used = 0
	for i, path := range s.List("") {
		n := 0
		if i < len(keep) {
			n = keep[i]
		}
		f := s.files[path]
		f.crash(n)
		s.used += f.size()
	}
	s.armed, s.down = false, false
}
