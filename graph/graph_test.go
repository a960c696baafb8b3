package graph

import (
	"math"
	"slices"
	"testing"

	"surety/api"
)

// same holds two lists against each other: nothing is nil or without elements.
func same(a, b []int) bool {
	return slices.Equal(a, b)
}

// row answers the numbers from a to b.
func row(a, b int) []int {
	var out []int
	for i := a; i <= b; i++ {
		out = append(out, i)
	}
	return out
}

// chain answers the lists in which each node has the one before it ahead.
func chain(n int) [][]int {
	ahead := make([][]int, n)
	for i := 1; i < n; i++ {
		ahead[i] = []int{i - 1}
	}
	return ahead
}

var shapes = []struct {
	name          string
	n             int
	ahead         [][]int
	order, stuck  []int
	deep          []int
	aheads, backs [][]int
}{
	{name: "none"},
	{"one", 1, nil, []int{0}, nil, []int{1}, [][]int{nil}, [][]int{nil}},
	{"document's first", 3, [][]int{{1, 2}}, []int{1, 2, 0}, nil, []int{2, 1, 1}, [][]int{{1, 2}, nil, nil}, [][]int{nil, {0}, {0}}},
	{"document's second", 3, [][]int{{1}, {0}, {1}}, nil, []int{0, 1, 2}, []int{0, 0, 0}, [][]int{{1}, {0}, {1}}, [][]int{{1}, {0, 2}, nil}},
	{"without lists", 4, nil, []int{0, 1, 2, 3}, nil, []int{1, 1, 1, 1}, make([][]int, 4), make([][]int, 4)},
	{"a list is missing", 3, [][]int{nil, {2}}, []int{0, 2, 1}, nil, []int{1, 2, 1}, [][]int{nil, {2}, nil}, [][]int{nil, nil, {1}}},
	{"lists behind the last", 2, [][]int{{1}, nil, {0}, {1, 0}}, []int{1, 0}, nil, []int{2, 1}, [][]int{{1}, nil}, [][]int{nil, {0}}},
	{"what is no node", 2, [][]int{{-1, 2, 1, math.MaxInt, math.MinInt}, {2, -1}}, []int{1, 0}, nil, []int{2, 1}, [][]int{{1}, nil}, [][]int{nil, {0}}},
	{"twice and falling", 4, [][]int{{3, 2, 3, 1, 2, 3}}, []int{1, 2, 3, 0}, nil, []int{2, 1, 1, 1}, [][]int{{1, 2, 3}, nil, nil, nil}, [][]int{nil, {0}, {0}, {0}}},
	{"ahead of itself", 3, [][]int{nil, {1}, {0}}, []int{0, 2}, []int{1}, []int{1, 0, 2}, [][]int{nil, {1}, {0}}, [][]int{{2}, {1}, nil}},
	{"behind what is ahead of itself", 4, [][]int{{1}, {1}, {0}, nil}, []int{3}, []int{0, 1, 2}, []int{0, 0, 0, 1}, [][]int{{1}, {1}, {0}, nil}, [][]int{{2}, {0, 1}, nil, nil}},
	{"ahead of a ring", 4, [][]int{{1}, {2, 3}, {0}, nil}, []int{3}, []int{0, 1, 2}, []int{0, 0, 0, 1}, [][]int{{1}, {2, 3}, {0}, nil}, [][]int{{2}, {0}, {1}, {1}}},
	{"a lesser one is let in", 4, [][]int{{2}, {3}, nil, nil}, []int{2, 0, 3, 1}, nil, []int{2, 2, 1, 1}, [][]int{{2}, {3}, nil, nil}, [][]int{nil, nil, {0}, {1}}},
	{"a long way and a short one", 4, [][]int{nil, {0}, {1}, {0, 2}}, []int{0, 1, 2, 3}, nil, []int{1, 2, 3, 4}, [][]int{nil, {0}, {1}, {0, 2}}, [][]int{{1, 3}, {2}, {3}, nil}},
	{"a short way and a long one", 4, [][]int{{1, 3}, {2}, {3}, nil}, []int{3, 2, 1, 0}, nil, []int{4, 3, 2, 1}, [][]int{{1, 3}, {2}, {3}, nil}, [][]int{nil, {0}, {1}, {0, 2}}},
}

func TestShapes(t *testing.T) {
	for _, s := range shapes {
		g := New(s.n, s.ahead)
		if g.Len() != s.n {
			t.Errorf("%s: %d nodes", s.name, g.Len())
		}
		order, stuck := g.Order()
		if !same(order, s.order) || !same(stuck, s.stuck) {
			t.Errorf("%s: order %v, stuck %v", s.name, order, stuck)
		}
		if !same(g.Deep(), s.deep) {
			t.Errorf("%s: deep %v", s.name, g.Deep())
		}
		h := g.Turned()
		for i := range s.n {
			if !same(g.Ahead(i), s.aheads[i]) || !same(g.Behind(i), s.backs[i]) {
				t.Errorf("%s: of %d: ahead %v, behind %v", s.name, i, g.Ahead(i), g.Behind(i))
			}
			if !same(h.Behind(i), s.aheads[i]) || !same(h.Ahead(i), s.backs[i]) {
				t.Errorf("%s: turned, of %d: ahead %v, behind %v", s.name, i, h.Ahead(i), h.Behind(i))
			}
		}
	}
}

func TestHowManyNodes(t *testing.T) {
	for _, c := range []struct{ n, len int }{
		{math.MinInt, 0}, {-1, 0}, {0, 0}, {1, 1}, {63, 63}, {64, 64}, {65, 65},
		{api.MaxItems - 1, 127}, {api.MaxItems, 128}, {api.MaxItems + 1, 128}, {1 << 31, 128}, {math.MaxInt, 128},
	} {
		g := New(c.n, chain(200))
		if g.Len() != c.len || g.Turned().Len() != c.len || Both(g, g).Len() != c.len {
			t.Errorf("of %d: %d nodes, %d turned, %d both", c.n, g.Len(), g.Turned().Len(), Both(g, g).Len())
		}
		order, stuck := g.Order()
		if !same(order, row(0, c.len-1)) || len(stuck) != 0 {
			t.Errorf("of %d: order %v, stuck %v", c.n, order, stuck)
		}
		if !same(g.Deep(), row(1, c.len)) {
			t.Errorf("of %d: deep %v", c.n, g.Deep())
		}
		if len(g.Behind(c.len-1)) != 0 || len(g.Ahead(c.len)) != 0 {
			t.Errorf("of %d: the last is ahead of %v", c.n, g.Behind(c.len-1))
		}
	}
}

// TestEachPair sets each pair of 128 nodes alone, so that no bit stands for another one.
func TestEachPair(t *testing.T) {
	for i := range api.MaxItems {
		for j := range api.MaxItems {
			ahead := make([][]int, i+1)
			ahead[i] = []int{j}
			g := New(api.MaxItems, ahead)
			for k := range api.MaxItems {
				var a, b []int
				if k == i {
					a = []int{j}
				}
				if k == j {
					b = []int{i}
				}
				if !same(g.Ahead(k), a) || !same(g.Behind(k), b) {
					t.Fatalf("%d behind %d: of %d: ahead %v, behind %v", i, j, k, g.Ahead(k), g.Behind(k))
				}
			}
			under, over := row(min(i, j), min(i, j)), row(min(i, j), min(i, j))
			if i != j {
				under = append(under, max(i, j))
				over = append(over, max(i, j))
			}
			if !same(g.Under(i), under) || !same(g.Over(j), over) {
				t.Fatalf("%d behind %d: under %v, over %v", i, j, g.Under(i), g.Over(j))
			}
		}
	}
}

func TestWhatIsNoNode(t *testing.T) {
	for _, n := range []int{0, 1, 3, 63, 64, 65, 127, 128, 129} {
		g := New(n, chain(n))
		for _, i := range []int{math.MinInt, math.MinInt32, -129, -128, -65, -64, -1, n, n + 1, 128, 129, 192, 1 << 31, 1 << 32, 1<<32 + 1, math.MaxInt} {
			if i >= 0 && i < g.Len() {
				continue
			}
			if len(g.Ahead(i)) != 0 || len(g.Behind(i)) != 0 || len(g.Under(i)) != 0 || len(g.Over(i)) != 0 {
				t.Errorf("of %d nodes, %d: %v %v %v %v", n, i, g.Ahead(i), g.Behind(i), g.Under(i), g.Over(i))
			}
		}
	}
}

func TestReach(t *testing.T) {
	// 0 and 1 ahead of 2, 2 ahead of 3, 5 and 6 a ring ahead of 7, 4 alone.
	g := New(8, [][]int{nil, nil, {0, 1}, {2}, nil, {6}, {5}, {6}})
	for _, c := range []struct{ l, under, over []int }{
		{nil, nil, nil},
		{[]int{}, nil, nil},
		{[]int{0}, []int{0}, []int{0, 2, 3}},
		{[]int{1}, []int{1}, []int{1, 2, 3}},
		{[]int{2}, []int{0, 1, 2}, []int{2, 3}},
		{[]int{3}, []int{0, 1, 2, 3}, []int{3}},
		{[]int{4}, []int{4}, []int{4}},
		{[]int{5}, []int{5, 6}, []int{5, 6, 7}},
		{[]int{6}, []int{5, 6}, []int{5, 6, 7}},
		{[]int{7}, []int{5, 6, 7}, []int{7}},
		{[]int{3, 0, 3}, []int{0, 1, 2, 3}, []int{0, 2, 3}},
		{[]int{7, 4, 1}, []int{1, 4, 5, 6, 7}, []int{1, 2, 3, 4, 7}},
		{[]int{-1, 8, 2, math.MaxInt, math.MinInt}, []int{0, 1, 2}, []int{2, 3}},
		{[]int{-1, 8}, nil, nil},
	} {
		if !same(g.Under(c.l...), c.under) || !same(g.Over(c.l...), c.over) {
			t.Errorf("%v: under %v, over %v", c.l, g.Under(c.l...), g.Over(c.l...))
		}
		if h := g.Turned(); !same(h.Over(c.l...), c.under) || !same(h.Under(c.l...), c.over) {
			t.Errorf("%v, turned: under %v, over %v", c.l, h.Under(c.l...), h.Over(c.l...))
		}
	}
	one := New(2, [][]int{{0}, nil})
	if !same(one.Under(0), []int{0}) || !same(one.Over(0, 1), []int{0, 1}) {
		t.Errorf("ahead of itself: %v %v", one.Under(0), one.Over(0, 1))
	}
}

func TestGreat(t *testing.T) {
	g := New(api.MaxItems, chain(api.MaxItems))
	if !same(g.Under(127), row(0, 127)) || !same(g.Over(0), row(0, 127)) || !same(g.Under(0), []int{0}) || !same(g.Over(64), row(64, 127)) || !same(g.Under(63), row(0, 63)) {
		t.Error("a chain")
	}
	back := g.Turned()
	order, _ := back.Order()
	want := row(0, 127)
	slices.Reverse(want)
	if !same(order, want) {
		t.Errorf("a chain turned: %v", order)
	}
	want = row(1, 128)
	slices.Reverse(want)
	if !same(back.Deep(), want) {
		t.Errorf("a chain turned: deep %v", back.Deep())
	}
	full := make([][]int, api.MaxItems)
	long := make([]int, 1<<16)
	for i := range long {
		long[i] = i % 200
	}
	for i := range full {
		full[i] = long
	}
	f := New(1<<40, full)
	order, stuck := f.Order()
	if len(order) != 0 || !same(stuck, row(0, 127)) || !same(f.Ahead(77), row(0, 127)) || !same(f.Over(5), row(0, 127)) || !same(f.Deep(), make([]int, 128)) {
		t.Error("all ahead of all")
	}
	lists := make([][]int, 1<<20)
	for i := range lists {
		lists[i] = long
	}
	if h := New(3, lists); !same(h.Ahead(2), []int{0, 1, 2}) {
		t.Error("many lists")
	}
}

func TestBoth(t *testing.T) {
	g := New(4, [][]int{{1}, nil, {3, 2}, nil})
	h := New(4, [][]int{{2, 1}, {0}, nil, {0}})
	for _, b := range []*Graph{Both(g, h), Both(h, g)} {
		for i, want := range [][]int{{1, 2}, {0}, {2, 3}, {0}} {
			if !same(b.Ahead(i), want) {
				t.Errorf("ahead of %d: %v", i, b.Ahead(i))
			}
		}
		for i, want := range [][]int{{1, 3}, {0}, {0, 2}, {2}} {
			if !same(b.Behind(i), want) {
				t.Errorf("behind %d: %v", i, b.Behind(i))
			}
		}
	}
	if !same(g.Ahead(0), []int{1}) || !same(h.Ahead(0), []int{1, 2}) || len(g.Ahead(1)) != 0 || len(h.Behind(3)) != 0 {
		t.Error("what was handed in is changed")
	}
	var none *Graph
	if Both(none, none) != nil || Both(g, none) != nil || Both(none, g) != nil || Both(New(0, nil), none) != nil || Both(none, New(0, nil)) != nil {
		t.Error("of a nil graph")
	}
	for n := range 6 {
		if (Both(g, New(n, nil)) != nil) != (n == 4) || (Both(New(n, nil), g) != nil) != (n == 4) {
			t.Errorf("of 4 and of %d", n)
		}
	}
	if b := Both(New(0, nil), New(-5, nil)); b == nil || b.Len() != 0 {
		t.Error("of no nodes")
	}
	if b := Both(New(300, chain(300)), New(128, chain(128)).Turned()); b == nil || !same(b.Ahead(127), []int{126}) || !same(b.Ahead(64), []int{63, 65}) {
		t.Error("of MaxItems")
	}
}

func TestNil(t *testing.T) {
	for _, g := range []*Graph{nil, {}, New(0, nil), New(0, [][]int{{0}}), New(-1, [][]int{{0}, {1}})} {
		order, stuck := g.Order()
		if g.Len() != 0 || len(order) != 0 || len(stuck) != 0 || len(g.Deep()) != 0 || len(g.Ahead(0)) != 0 || len(g.Behind(0)) != 0 || len(g.Under(0)) != 0 || len(g.Over(0, 1)) != 0 || len(g.Under()) != 0 {
			t.Error("there are nodes")
		}
		if (g.Turned() == nil) != (g == nil) || g.Turned().Len() != 0 {
			t.Error("turned")
		}
	}
}
