package graph

import (
	"slices"
	"testing"
)

// spoil fills a list and the room behind its length.
func spoil(l []int) {
	l = l[:cap(l)]
	for i := range l {
		l[i] = -7
	}
}

func roomy(l ...int) []int {
	return append(make([]int, 0, len(l)+5), l...)
}

func all(g *Graph) [][]int {
	order, stuck := g.Order()
	out := [][]int{order, stuck, g.Deep(), g.Under(2, 5), g.Over(0, 4)}
	for i := range g.Len() {
		out = append(out, g.Ahead(i), g.Behind(i))
	}
	return out
}

func copyAll(l [][]int) [][]int {
	var out [][]int
	for _, x := range l {
		out = append(out, slices.Clone(x))
	}
	return out
}

func sameAll(a, b [][]int) bool {
	return slices.EqualFunc(a, b, same)
}

func TestNothingHandedInIsKeptOrChanged(t *testing.T) {
	ahead := append(make([][]int, 0, 9), roomy(1), roomy(), roomy(1, 0), roomy(2, 2, 99), roomy(5), roomy(4))
	for i := range ahead {
		full := ahead[i][:cap(ahead[i])]
		for j := len(ahead[i]); j < len(full); j++ {
			full[j] = 3
		}
	}
	ahead[:7][6] = []int{0}
	before := copyAll(ahead[:7])
	g := New(7, ahead)
	if !sameAll(ahead[:7], before) || len(g.Ahead(6)) != 0 || len(g.Ahead(1)) != 0 {
		t.Error("the lists are changed, or the room behind them is read")
	}
	want := copyAll(all(g))
	for _, l := range ahead {
		spoil(l)
	}
	ahead[0] = []int{6}
	if !sameAll(all(g), want) {
		t.Error("the lists are kept")
	}
	l := roomy(3, 1)
	under := slices.Clone(g.Under(l...))
	over := slices.Clone(g.Over(l...))
	if !same(l, []int{3, 1}) || !same(l[:4], []int{3, 1, 0, 0}) {
		t.Error("a list of nodes is changed")
	}
	spoil(l)
	if !same(g.Under(3, 1), under) || !same(g.Over(3, 1), over) {
		t.Error("a list of nodes is kept")
	}
}

func TestWhatIsAnsweredIsNewMemory(t *testing.T) {
	g := New(7, [][]int{{1}, nil, {1, 0}, {2}, {5}, {4}, {6, 5}})
	want := copyAll(all(g))
	first, second := all(g), all(g)
	for _, l := range first {
		spoil(l)
	}
	if !sameAll(second, want) || !sameAll(all(g), want) {
		t.Error("an answer shares memory")
	}
	order, stuck := g.Order()
	spoil(order)
	if !same(stuck, want[1]) {
		t.Error("two lists of one answer share memory")
	}
}

func TestGraphsStandAlone(t *testing.T) {
	g := New(7, [][]int{{1}, nil, {1, 0}, {2}, {5}, {4}, {6, 5}})
	want := copyAll(all(g))
	h, b := g.Turned(), Both(g, g)
	if h == g || b == g || h.Turned() == g {
		t.Error("a graph is answered as it was handed in")
	}
	if !sameAll(all(b), want) || !sameAll(all(h.Turned()), want) {
		t.Error("of the same graph twice, or turned twice")
	}
	turned, both := copyAll(all(h)), copyAll(all(b))
	*g = *New(7, [][]int{{3, 4}})
	if !sameAll(all(h), turned) || !sameAll(all(b), both) {
		t.Error("a graph shares memory with another one")
	}
	k := *h
	*h = Graph{}
	if !sameAll(all(&k), turned) {
		t.Error("a copy of a graph shares memory")
	}
}
