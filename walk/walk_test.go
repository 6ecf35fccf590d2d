package walk_test

import (
	"math"
	"math/rand"
	"reflect"
	"slices"
	"testing"

	"tramway/api"
	"tramway/walk"
)

// graphs are right ones.
func graphs() [][][]int {
	out := [][][]int{nil, {nil}, {{2}, nil, {1}}, {{1, 1}, nil}, {nil, nil, nil}, {{1, 2}, {3}, {3}, nil}}
	r := rand.New(rand.NewSource(1))
	for range 300 {
		n := 1 + r.Intn(30)
		name := r.Perm(n)
		g := make([][]int, n)
		for i := range n {
			for range r.Intn(4) {
				if i > 0 {
					g[name[i]] = append(g[name[i]], name[r.Intn(i)])
				}
			}
		}
		out = append(out, g)
	}
	long := make([][]int, 10000)
	for i := range len(long) - 1 {
		long[i] = []int{i + 1}
	}
	return append(out, long)
}

func wrongGraphs() [][][]int {
	return [][][]int{{{0}}, {{1}, {0}}, {nil, {2}, {3}, {1}}, {{1}}, {{-1}}, {nil, {math.MaxInt}}, {nil, {math.MinInt}}, {{1}, nil, {3}, {2}}, {{1}, {0, 5}}}
}

// order is the document's, word by word.
func order(g [][]int) []int {
	var l []int
	for len(l) < len(g) {
		for x := range g {
			if !slices.Contains(l, x) && !slices.ContainsFunc(g[x], func(p int) bool { return !slices.Contains(l, p) }) {
				l = append(l, x)
				break
			}
		}
	}
	return l
}

// P22.1
func TestOrder(t *testing.T) {
	for _, g := range graphs() {
		l, e := walk.Order(g)
		if e != api.OK || len(l) != len(g) {
			t.Fatalf("%v: %v %d", g, l, e)
		}
		if len(g) < 100 && !slices.Equal(l, order(g)) {
			t.Errorf("%v: %v, want %v", g, l, order(g))
		}
	}
	if l, _ := walk.Order([][]int{{2}, nil, {1}}); !slices.Equal(l, []int{1, 2, 0}) {
		t.Errorf("the example: %v", l)
	}
}

// P22.1
func TestWrongGraphs(t *testing.T) {
	for _, g := range wrongGraphs() {
		if l, e := walk.Order(g); l != nil || e != api.ErrForm {
			t.Errorf("Order(%v): %v %d", g, l, e)
		}
		if l, e := walk.Reach(g, nil); l != nil || e != api.ErrForm {
			t.Errorf("Reach(%v): %v %d", g, l, e)
		}
		if l, e := walk.Heads(g); l != nil || e != api.ErrForm {
			t.Errorf("Heads(%v): %v %d", g, l, e)
		}
	}
}

// P22.2
func TestReach(t *testing.T) {
	r := rand.New(rand.NewSource(2))
	for _, g := range graphs() {
		var from []int
		for range r.Intn(4) {
			if len(g) > 0 {
				from = append(from, r.Intn(len(g)))
			}
		}
		want := map[int]int{}
		var come func(x int)
		come = func(x int) {
			if want[x] == 0 {
				want[x] = 1
				for _, p := range g[x] {
					come(p)
				}
			}
		}
		for _, x := range from {
			come(x)
		}
		l, e := walk.Reach(g, from)
		if e != api.OK || len(l) != len(want) || !slices.IsSorted(l) || slices.ContainsFunc(l, func(x int) bool { return want[x] == 0 }) {
			t.Errorf("Reach(%v, %v): %v %d", g, from, l, e)
		}
		for _, x := range []int{-1, len(g), math.MaxInt, math.MinInt} {
			if l, e := walk.Reach(g, append(slices.Clone(from), x)); l != nil || e != api.ErrForm {
				t.Errorf("Reach of %d: %d", x, e)
			}
		}
	}
}

// P22.2
func TestHeads(t *testing.T) {
	for _, g := range graphs() {
		var want []int
		for x := range g {
			if !slices.ContainsFunc(g, func(l []int) bool { return slices.Contains(l, x) }) {
				want = append(want, x)
			}
			if len(g) > 100 {
				want = []int{0}
				break
			}
		}
		if l, e := walk.Heads(g); e != api.OK || !slices.Equal(l, want) {
			t.Errorf("Heads(%v): %v %d, want %v", g, l, e, want)
		}
	}
}

// P22.3
func TestClosed(t *testing.T) {
	g := [][]int{{1, 2}, {3}, {3}, nil}
	for _, c := range []struct {
		g    [][]int
		l    []int
		want bool
	}{
		{g, nil, true}, {g, []int{3}, true}, {g, []int{1, 3}, true}, {g, []int{3, 1, 1}, true}, {g, []int{1}, false}, {g, []int{0, 1, 3}, false}, {g, []int{0, 1, 2, 3}, true}, {g, []int{3, 2, 1, 0}, true},
		{g, []int{-1, 4, math.MaxInt, math.MinInt}, true}, {g, []int{3, 9}, true}, {g, []int{2, 9}, false}, {nil, []int{0}, true}, {nil, nil, true},
		{[][]int{{-1, 7}}, []int{0}, true}, {[][]int{{0}}, []int{0}, true}, {[][]int{{1}, {0}}, []int{0}, false}, {[][]int{{1}, {0}}, []int{1, 0}, true}, {[][]int{{9, 1}, nil}, []int{0}, false},
	} {
		if got := walk.Closed(c.g, c.l); got != c.want {
			t.Errorf("Closed(%v, %v): %v", c.g, c.l, got)
		}
	}
	for _, g := range graphs() {
		if l, _ := walk.Reach(g, []int{}); !walk.Closed(g, l) {
			t.Error("what is come to is closed")
		}
	}
}

// P22.4
func TestMemory(t *testing.T) {
	g, from := [][]int{{1, 2}, {3}, {3}, nil}, []int{1, 0, 1}
	was := [][]int{{1, 2}, {3}, {3}, nil}
	a, _ := walk.Order(g)
	b, _ := walk.Reach(g, from)
	c, _ := walk.Heads(g)
	walk.Closed(g, from)
	for _, l := range [][]int{a, b, c} {
		for i := range l {
			l[i] = -7
		}
	}
	if !reflect.DeepEqual(g, was) || !slices.Equal(from, []int{1, 0, 1}) {
		t.Error("an argument was changed")
	}
}
