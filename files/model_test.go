package files_test

import (
	"math/rand"
	"slices"
	"sort"
	"strings"
	"testing"

	"tramway/api"
	"tramway/files"
)

// model is a store made as plainly as can be: each file is all that was ever done to it.
type model struct {
	files map[string][]step
	quota int
	left  int // -1: not armed
}

type step struct {
	kind string // write, cut, sync
	at   int
	b    string
}

func stands(l []step) string {
	s := ""
	for _, x := range l {
		switch x.kind {
		case "write":
			end := min(len(s), x.at+len(x.b))
			s = s[:x.at] + x.b + s[end:]
		case "cut":
			s = s[:x.at]
		}
	}
	return s
}

func (m *model) used() int {
	n := 0
	for _, l := range m.files {
		n += len(stands(l))
	}
	return n
}

func (m *model) clash(path string) bool {
	for p := range m.files {
		if strings.HasPrefix(path, p+"/") || strings.HasPrefix(p, path+"/") {
			return true
		}
	}
	return false
}

func (m *model) do(kind, path, to string, at int, b string) api.Errno {
	if m.left == 0 {
		return api.ErrState
	}
	e := m.try(kind, path, to, at, b)
	if e == api.OK && m.left > 0 {
		m.left--
	}
	return e
}

func (m *model) try(kind, path, to string, at int, b string) api.Errno {
	l, ok := m.files[path]
	if !ok && kind != "write" {
		return api.ErrNone
	}
	s := stands(l)
	switch kind {
	case "write":
		if at < 0 {
			return api.ErrArg
		}
		if m.clash(path) {
			return api.ErrClash
		}
		if at > len(s) {
			return api.ErrArg
		}
		if g := at + len(b) - len(s); g > 0 && m.used()+g > m.quota {
			return api.ErrFull
		}
	case "cut":
		if at < 0 || at > len(s) {
			return api.ErrArg
		}
	case "remove":
		delete(m.files, path)
		return api.OK
	case "rename":
		old, was := m.files[to]
		delete(m.files, path)
		delete(m.files, to)
		if m.clash(to) {
			m.files[path] = l
			if was {
				m.files[to] = old
			}
			return api.ErrClash
		}
		m.files[to] = l
		return api.OK
	}
	m.files[path] = append(slices.Clone(l), step{kind, at, b})
	return api.OK
}

func (m *model) crash(keep []int) {
	var paths []string
	for p := range m.files {
		paths = append(paths, p)
	}
	sort.Strings(paths)
	for i, p := range paths {
		k := 0
		if i < len(keep) {
			k = max(0, keep[i])
		}
		l, synced := m.files[p], 0
		for j, x := range l {
			if x.kind == "sync" {
				synced = j + 1
			}
		}
		m.files[p] = append(slices.Clone(l[:min(len(l), synced+k)]), step{kind: "sync"})
	}
	m.left = -1
}

// P7.2 to P7.5: whatever is done, the store answers as the model.
func TestAsTheModel(t *testing.T) {
	paths := []string{"a", "b", "a/b", "a/c", "a/b/c", "b/d", "ab"}
	kinds := []string{"write", "write", "write", "cut", "sync", "rename", "remove"}
	for seed := range int64(300) {
		r := rand.New(rand.NewSource(seed))
		quota := r.Intn(30)
		s, m := files.New(quota), &model{map[string][]step{}, quota, -1}
		for range 120 {
			kind, path, to := kinds[r.Intn(len(kinds))], paths[r.Intn(len(paths))], paths[r.Intn(len(paths))]
			at, b := r.Intn(9)-1, "0123456789"[:r.Intn(10)]
			var got api.Errno
			switch kind {
			case "write":
				got = s.Write(path, at, []byte(b))
			case "cut":
				got = s.Cut(path, at)
			case "sync":
				got = s.Sync(path)
			case "rename":
				got = s.Rename(path, to)
			case "remove":
				got = s.Remove(path)
			}
			if want := m.do(kind, path, to, at, b); got != want {
				t.Fatalf("seed %d: %s %s %s %d %q: %d, want %d", seed, kind, path, to, at, b, got, want)
			}
			if r.Intn(20) == 0 && m.left < 0 {
				m.left = r.Intn(10)
				s.Arm(m.left)
			}
			if r.Intn(20) == 0 {
				keep := []int{r.Intn(4) - 1, r.Intn(4), r.Intn(9)}
				s.Crash(keep...)
				m.crash(keep)
			}
			same(t, s, m)
		}
	}
}

func same(t *testing.T, s *files.Store, m *model) {
	t.Helper()
	l := s.List("")
	if len(l) != len(m.files) || s.Used() != m.used() {
		t.Fatalf("%q, %d bytes; want %d files, %d bytes", l, s.Used(), len(m.files), m.used())
	}
	for _, p := range l {
		if b, _ := s.Read(p); string(b) != stands(m.files[p]) {
			t.Fatalf("%s: %q, want %q", p, b, stands(m.files[p]))
		}
	}
}
