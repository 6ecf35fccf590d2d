package lay_test

import (
	"testing"

	"tramway/api"
	"tramway/files"
	"tramway/lay"
)

func TestUnder(t *testing.T) {
	if lay.Under("", "a") != "a" || lay.Under("f/g", "a/b") != "f/g/a/b" {
		t.Error("Under")
	}
}

// Whenever the power goes, and whatever is kept, the file is the old one or the new one.
func TestDown(t *testing.T) {
	for n := range 6 {
		for keep := range 3 {
			s := files.New(100)
			s.Write("tmp", 0, []byte("what was left there"))
			lay.Down(s, "tmp2", "a", []byte("old"))
			s.Arm(n)
			e := lay.Down(s, "tmp", "a", []byte("newer"))
			s.Crash(keep, keep, keep)
			want := "old"
			if n >= 4 {
				want = "newer"
			}
			if b, _ := s.Read("a"); string(b) != want || (e == api.OK) != (n >= 4) {
				t.Errorf("%d changes: %q %d", n, b, e)
			}
		}
	}
}

func TestErrorsOfDown(t *testing.T) {
	var none *files.Store
	if e := lay.Down(none, "tmp", "a", nil); e != api.ErrState {
		t.Errorf("no store: %d", e)
	}
	s := files.New(3)
	if e := lay.Down(s, "tmp", "a", []byte("abcd")); e != api.ErrFull {
		t.Errorf("no room: %d", e)
	}
	if e := lay.Down(s, "tmp", "..", nil); e != api.ErrArg {
		t.Errorf("no path: %d", e)
	}
	if e := lay.Down(s, "tmp", "tmp/a", nil); e != api.OK {
		t.Errorf("tmp is away when it is renamed: %d", e)
	}
}
