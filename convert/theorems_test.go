package convert_test

import (
	"maps"
	"math/rand"
	"reflect"
	"slices"
	"testing"

	"tramway/api"
	"tramway/convert"
	"tramway/files"
	"tramway/marks"
	"tramway/odb"
	"tramway/refs"
	"tramway/vault"
)

const seeds = 40

// sound: the marks are pairs of what is there on both sides.
func sound(t *testing.T, s *files.Store) {
	t.Helper()
	p, e := marks.Load(s, "map")
	is(t, "the marks", e, api.OK)
	v, e := vault.Load(s, "hg")
	is(t, "the vault", e, api.OK)
	for _, x := range p {
		if !odb.Has(s, "git", x.Git) || !slices.Contains(v.Nodes, x.Hg) {
			t.Fatal("a mark of what isn't there")
		}
	}
	for _, node := range v.Nodes {
		_, e := vault.Tree(s, "hg", node)
		is(t, "a tree", e, api.OK)
	}
	reachedSoFar(t, s)
}

// reachedSoFar: refs name what is there, with all that hangs on it.
func reachedSoFar(t *testing.T, s *files.Store) {
	t.Helper()
	if len(s.List("git/")) > 0 {
		reached(t, s, "git")
	}
}

// T1
func TestThereAndBack(t *testing.T) {
	for seed := range int64(seeds) {
		s := gitSide(seed, 12)
		was := state(s, "git/")
		is(t, "Forward", forward(s), api.OK)
		is(t, "Back", convert.Back(s, "new", "hg", "map2"), api.OK)
		a, _ := refs.List(s, "git")
		b, e := refs.List(s, "new")
		if e != api.OK || !slices.Equal(a, b) {
			t.Fatalf("seed %d: refs %v, were %v", seed, b, a)
		}
		if !maps.Equal(reached(t, s, "git"), reached(t, s, "new")) {
			t.Fatalf("seed %d: other objects", seed)
		}
		if !reflect.DeepEqual(state(s, "git/"), was) {
			t.Fatalf("seed %d: the source was written to", seed)
		}
	}
}

// sameHg: have both sides the same changes, manifests, files and bookmarks?
func sameHg(t *testing.T, s *files.Store, one, two string) {
	t.Helper()
	v, _ := vault.Load(s, one)
	w, e := vault.Load(s, two)
	is(t, "Load", e, api.OK)
	if len(v.Nodes) != len(w.Nodes) {
		t.Fatalf("%d changes, were %d", len(w.Nodes), len(v.Nodes))
	}
	parent := func(v vault.Vault, i int) api.Id {
		if i < 0 {
			return api.Id{}
		}
		return v.Nodes[i]
	}
	for i, node := range v.Nodes {
		j := slices.Index(w.Nodes, node)
		if j < 0 || !reflect.DeepEqual(v.Changes[i], w.Changes[j]) {
			t.Fatalf("the change %d isn't there, or is another one", i)
		}
		for k := range 2 {
			if parent(v, v.Parents[i][k]) != parent(w, w.Parents[j][k]) {
				t.Fatalf("the change %d has other parents", i)
			}
		}
		a, _ := vault.Tree(s, one, node)
		b, e := vault.Tree(s, two, node)
		if e != api.OK || !reflect.DeepEqual(a, b) {
			t.Fatalf("the change %d has other files", i)
		}
	}
	a, _ := vault.Marks(s, one)
	b, e := vault.Marks(s, two)
	if e != api.OK || !slices.Equal(a, b) {
		t.Fatalf("bookmarks %v, were %v", b, a)
	}
}

// heads lets each change that is nobody's parent have a bookmark, so that all are come to.
func heads(t *testing.T, s *files.Store) {
	v, _ := vault.Load(s, "hg")
	inner := map[int]int{}
	for _, p := range v.Parents {
		inner[p[0]]++
		inner[p[1]]++
	}
	var l []vault.Mark
	for i, node := range v.Nodes {
		if inner[i] == 0 {
			l = append(l, vault.Mark{Name: "head" + string(rune('A'+i)), Node: node})
		}
	}
	is(t, "SetMarks", vault.SetMarks(s, "hg", l), api.OK)
}

// T2
func TestTheOtherWay(t *testing.T) {
	for seed := range int64(seeds) {
		s := hgSide(t, seed, 12)
		heads(t, s)
		was := state(s, "hg/")
		is(t, "Back", back(s), api.OK)
		sound(t, s)
		is(t, "Forward", convert.Forward(s, "git", "new", "map2"), api.OK)
		sameHg(t, s, "hg", "new")
		if !reflect.DeepEqual(state(s, "hg/"), was) {
			t.Fatalf("seed %d: the source was written to", seed)
		}
	}
}

// ways are both conversions, each of a small side.
func ways(t *testing.T) map[string]struct {
	fill func() *files.Store
	run  func(s *files.Store) api.Errno
} {
	return map[string]struct {
		fill func() *files.Store
		run  func(s *files.Store) api.Errno
	}{
		"forward": {func() *files.Store { return gitSide(3, 4) }, forward},
		"back": {func() *files.Store {
			s := hgSide(t, 3, 4)
			id := commitFrom(s, anyChange(rand.New(rand.NewSource(1)), 9), treeOf(s, "git"))
			setRef(s, "git", "refs/heads/old", id)
			setRef(s, "git", "refs/heads/older", id)
			is(t, "Pack", refs.Pack(s, "git"), api.OK)
			setRef(s, "git", "refs/heads/older", id)
			return s
		}, back},
	}
}

// T3: interrupted once, at each change of the files.
func TestInterrupted(t *testing.T) {
	r := rand.New(rand.NewSource(1))
	for name, way := range ways(t) {
		whole := way.fill()
		is(t, name, way.run(whole), api.OK)
		start := way.fill()
		for n := 0; ; n++ {
			s := copied(start, room)
			s.Arm(n)
			e := way.run(s)
			s.Crash(anyKeeps(r)...)
			sound(t, s)
			is(t, name+", again", way.run(s), api.OK)
			if !reflect.DeepEqual(state(s, ""), state(whole, "")) {
				t.Fatalf("%s: %d changes: other files than without an interruption", name, n)
			}
			if e == api.OK {
				break
			}
			is(t, name, e, api.ErrState)
		}
	}
}

func anyKeeps(r *rand.Rand) []int {
	l := make([]int, 60)
	for i := range l {
		l[i] = r.Intn(5) - 1
	}
	return l
}

// T3: interrupted again and again.
func TestInterruptedOften(t *testing.T) {
	for name, way := range ways(t) {
		whole := way.fill()
		is(t, name, way.run(whole), api.OK)
		start := way.fill()
		for seed := range int64(20) {
			r := rand.New(rand.NewSource(seed))
			s := copied(start, room)
			for i := 0; ; i++ {
				s.Arm(r.Intn(12 + i))
				e := way.run(s)
				s.Crash(anyKeeps(r)...)
				sound(t, s)
				if e == api.OK {
					break
				}
			}
			if !reflect.DeepEqual(state(s, ""), state(whole, "")) {
				t.Fatalf("%s, seed %d: other files than without an interruption", name, seed)
			}
		}
	}
}

// T3: where there is no room it is told, and with more room it goes on.
func TestNoRoom(t *testing.T) {
	for name, way := range ways(t) {
		whole := way.fill()
		is(t, name, way.run(whole), api.OK)
		s := way.fill()
		for quota := s.Used(); ; quota += 700 {
			s = copied(s, quota)
			e := way.run(s)
			sound(t, s)
			if e == api.OK {
				break
			}
			is(t, name, e, api.ErrFull)
		}
		if !reflect.DeepEqual(state(s, ""), state(whole, "")) {
			t.Fatalf("%s: other files than with enough room", name)
		}
	}
}

// T4: a git side that grows.
func TestStepByStep(t *testing.T) {
	for seed := range int64(seeds / 2) {
		r := rand.New(rand.NewSource(seed))
		s := files.New(room)
		var there []api.Id
		for range 4 {
			there = grow(r, s, "git", there, 4)
			is(t, "Forward", forward(s), api.OK)
			is(t, "Forward of the same", convert.Forward(s, "git", "fresh", "fresh-map"), api.OK)
			ahead(t, s, "fresh", "hg")
			for _, p := range append(s.List("fresh/"), "fresh-map") {
				s.Remove(p)
			}
		}
	}
}

// ahead: what one side has the other one has, too, and it has the same bookmarks.
func ahead(t *testing.T, s *files.Store, one, two string) {
	t.Helper()
	v, _ := vault.Load(s, one)
	w, _ := vault.Load(s, two)
	for i, node := range v.Nodes {
		j := slices.Index(w.Nodes, node)
		if j < 0 || !reflect.DeepEqual(v.Changes[i], w.Changes[j]) {
			t.Fatalf("the change %d isn't there, or is another one", i)
		}
		a, _ := vault.Tree(s, one, node)
		b, e := vault.Tree(s, two, node)
		if e != api.OK || !reflect.DeepEqual(a, b) {
			t.Fatalf("the change %d has other files", i)
		}
	}
	a, _ := vault.Marks(s, one)
	b, _ := vault.Marks(s, two)
	if !slices.Equal(a, b) {
		t.Fatalf("bookmarks %v, should be %v", b, a)
	}
}

// T4: an hg side that grows.
func TestStepByStepTheOtherWay(t *testing.T) {
	for seed := range int64(seeds / 2) {
		r := rand.New(rand.NewSource(seed))
		s := files.New(room)
		var nodes []api.Id
		for range 4 {
			nodes = growHg(t, r, s, nodes, 4)
			is(t, "Back", back(s), api.OK)
			is(t, "Back of the same", convert.Back(s, "fresh", "hg", "fresh-map"), api.OK)
			a, _ := refs.List(s, "fresh")
			b, _ := refs.List(s, "git")
			if !slices.Equal(a, b) {
				t.Fatalf("refs %v, should be %v", b, a)
			}
			ids, _ := odb.Ids(s, "fresh")
			for _, id := range ids {
				if !odb.Has(s, "git", id) {
					t.Fatal("an object isn't there")
				}
			}
			for _, p := range append(s.List("fresh/"), "fresh-map") {
				s.Remove(p)
			}
			if r.Intn(2) == 0 {
				odb.Pack(s, "git")
				refs.Pack(s, "git")
			}
		}
	}
}

// T5
func TestNothingToDo(t *testing.T) {
	for seed := range int64(10) {
		git, hg := gitSide(seed, 8), hgSide(t, seed, 8)
		is(t, "Forward", forward(git), api.OK)
		is(t, "Back", back(hg), api.OK)
		for _, s := range []*files.Store{git, hg} {
			was := state(s, "")
			s.Arm(0)
			is(t, "Forward, nothing to do", forward(s), api.OK)
			is(t, "Back, nothing to do", back(s), api.OK)
			if !reflect.DeepEqual(state(s, ""), was) {
				t.Fatal("something was written")
			}
			p, _ := marks.Load(s, "map")
			if _, e := marks.Print(p); e != api.OK {
				t.Fatal("the marks aren't one to one")
			}
		}
	}
}

// P25.3: both sides grow in turn, and each becomes the other.
func TestInTurn(t *testing.T) {
	for seed := range int64(10) {
		r := rand.New(rand.NewSource(seed))
		s := files.New(room)
		there := grow(r, s, "git", nil, 4)
		for range 3 {
			is(t, "Forward", forward(s), api.OK)
			v, _ := vault.Load(s, "hg")
			growHg(t, r, s, v.Nodes, 2)
			is(t, "Back", back(s), api.OK)
			sound(t, s)
			there = grow(r, s, "git", there, 2)
		}
		is(t, "Forward", forward(s), api.OK)
		is(t, "Back into nothing", convert.Back(s, "new", "hg", "map2"), api.OK)
		a, _ := refs.List(s, "git")
		b, _ := refs.List(s, "new")
		if !slices.Equal(a, b) {
			t.Fatalf("seed %d: refs %v, were %v", seed, b, a)
		}
	}
}
