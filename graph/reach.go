package graph

import "surety/api"

// Under answers the nodes of l, and those on which they hang.
func (g *Graph) Under(l ...int) []int {
	if g == nil {
		return nil
	}
	return g.reach(&g.ahead, l)
}

// Over answers the nodes of l, and those that hang on them.
func (g *Graph) Over(l ...int) []int {
	if g == nil {
		return nil
	}
	return g.reach(&g.behind, l)
}

// reach answers the nodes of l, and all to which the rows lead from them.
func (g *Graph) reach(rows *[api.MaxItems]set, l []int) []int {
	var open, done set
	for _, i := range l {
		if g.holds(i) {
			open.add(i)
		}
	}
	// What is done is never opened again, so that this ends where nodes hang on themselves.
	for open != (set{}) {
		for _, i := range open.list() {
			done.add(i)
			open.take(rows[i])
		}
		open = open.less(done)
	}
	return done.list()
}
