package graph

import (
	"math/rand"
	"slices"
	"testing"
)

// table is a way of its own: a truth for each pair.
type table [][]bool

func tableOf(n int, ahead [][]int) table {
	t := make(table, n)
	for i := range t {
		t[i] = make([]bool, n)
		for j := range n {
			t[i][j] = i < len(ahead) && slices.Contains(ahead[i], j)
		}
	}
	return t
}

// hangs answers which hang on which, by going through each node in between.
func (t table) hangs() table {
	out := make(table, len(t))
	for i := range t {
		out[i] = slices.Clone(t[i])
	}
	for k := range out {
		for i := range out {
			for j := range out {
				out[i][j] = out[i][j] || out[i][k] && out[k][j]
			}
		}
	}
	return out
}

func (t table) free(i int) bool {
	h := t.hangs()
	for j := range t {
		if h[j][j] && (i == j || h[i][j]) {
			return false
		}
	}
	return true
}

func (t table) turned() table {
	out := tableOf(len(t), nil)
	for i := range t {
		for j := range t {
			out[i][j] = t[j][i]
		}
	}
	return out
}

func (t table) list(i int) []int {
	var out []int
	for j := range t {
		if t[i][j] {
			out = append(out, j)
		}
	}
	return out
}

// reach answers l's nodes and those on which they hang.
func (t table) reach(l []int) []int {
	h := t.hangs()
	var out []int
	for j := range t {
		if slices.ContainsFunc(l, func(i int) bool { return i == j || i >= 0 && i < len(t) && h[i][j] }) {
			out = append(out, j)
		}
	}
	return out
}

// long answers the longest row that ends with i, by trying all rows.
func (t table) long(i int) int {
	best := 0
	for j := range t {
		if t[i][j] {
			best = max(best, t.long(j))
		}
	}
	return best + 1
}

// leastOrder answers the least of all orders, tried from the least on: of several that could be next the least one.
func leastOrder(t table, nodes, done []int) []int {
	if len(done) == len(nodes) {
		return done
	}
	for _, i := range nodes {
		fits := !slices.Contains(done, i)
		for _, j := range t.list(i) {
			fits = fits && slices.Contains(done, j)
		}
		if fits {
			if out := leastOrder(t, nodes, append(slices.Clone(done), i)); out != nil {
				return out
			}
		}
	}
	return nil
}

func randomAhead(r *rand.Rand, n, thick int, rising bool) [][]int {
	names := r.Perm(n)
	ahead := make([][]int, r.Intn(n+3))
	for range r.Intn(thick + 1) {
		if len(ahead) == 0 {
			break
		}
		i, j := r.Intn(len(ahead)), r.Intn(n+2)-1
		if rising && (i >= n || j < 0 || j >= n || names[j] >= names[i]) {
			continue
		}
		ahead[i] = append(ahead[i], j)
	}
	return ahead
}

func hold(t *testing.T, g *Graph, w table, r *rand.Rand) {
	t.Helper()
	n := len(w)
	var free, stuck, deep []int
	for i := range n {
		if w.free(i) {
			free = append(free, i)
			deep = append(deep, w.long(i))
		} else {
			stuck = append(stuck, i)
			deep = append(deep, 0)
		}
	}
	order, rest := g.Order()
	if !same(order, leastOrder(w, free, nil)) || !same(rest, stuck) {
		t.Fatalf("%v: order %v, stuck %v", w, order, rest)
	}
	if !same(g.Deep(), deep) {
		t.Fatalf("%v: deep %v", w, g.Deep())
	}
	back := w.turned()
	for i := range n {
		if !same(g.Ahead(i), w.list(i)) || !same(g.Behind(i), back.list(i)) {
			t.Fatalf("%v: of %d: %v, %v", w, i, g.Ahead(i), g.Behind(i))
		}
	}
	for range 3 {
		var l []int
		for range r.Intn(4) {
			l = append(l, r.Intn(n+4)-2)
		}
		if !same(g.Under(l...), w.reach(l)) || !same(g.Over(l...), back.reach(l)) {
			t.Fatalf("%v: of %v: under %v, over %v", w, l, g.Under(l...), g.Over(l...))
		}
	}
}

func TestRandom(t *testing.T) {
	r := rand.New(rand.NewSource(16))
	for round := range 6000 {
		n := 1 + r.Intn(9)
		a, b := randomAhead(r, n, 2*n, round%3 > 0), randomAhead(r, n, n, round%5 > 0)
		g, h := New(n, a), New(n, b)
		w, v := tableOf(n, a), tableOf(n, b)
		hold(t, g, w, r)
		hold(t, g.Turned(), w.turned(), r)
		for i := range n {
			for j := range n {
				w[i][j] = w[i][j] || v[i][j]
			}
		}
		hold(t, Both(g, h), w, r)
	}
}

// TestRandomGreat asks graphs of up to 128 nodes for what their words say, as all orders can't be tried.
func TestRandomGreat(t *testing.T) {
	r := rand.New(rand.NewSource(17))
	for round := range 60 {
		n := 60 + r.Intn(69)
		a := randomAhead(r, n, 3*n, round%3 > 0)
		g, w := New(n, a), tableOf(n, a)
		h := w.hangs()
		order, stuck := g.Order()
		place := make([]int, n)
		for k, i := range order {
			place[i] = k + 1
		}
		deep := g.Deep()
		for k, i := range order {
			best := 0
			last := 0
			for _, j := range w.list(i) {
				if place[j] == 0 || place[j] > k {
					t.Fatalf("%d stands ahead of %d", i, j)
				}
				best, last = max(best, deep[j]), max(last, place[j])
			}
			if deep[i] != best+1 {
				t.Fatalf("deep of %d: %d", i, deep[i])
			}
			// It could have been next from place last on, so that all between are lesser.
			for _, j := range order[last:k] {
				if j > i {
					t.Fatalf("%d stands ahead of %d, which is less", j, i)
				}
			}
		}
		for i := range n {
			free := !h[i][i]
			for j := range n {
				free = free && !(h[i][j] && h[j][j])
			}
			if free != (place[i] > 0) || free == slices.Contains(stuck, i) || !free && deep[i] != 0 {
				t.Fatalf("%d: free is %v", i, free)
			}
			var under []int
			for j := range n {
				if i == j || h[i][j] {
					under = append(under, j)
				}
			}
			if !same(g.Under(i), under) || !same(g.Turned().Over(i), under) {
				t.Fatalf("under %d: %v", i, g.Under(i))
			}
		}
		if !slices.IsSorted(stuck) || len(order)+len(stuck) != n {
			t.Fatalf("stuck %v", stuck)
		}
	}
}
