package graph

// Order answers the nodes, each behind all that come ahead of it, and those that can have no place in such an order.
func (g *Graph) Order() ([]int, []int) {
	var order []int
	var placed, stuck set
	// Each round begins anew at the least node, as what was placed last may have let a lesser one be next.
rounds:
	for {
		for i := range g.Len() {
			if !placed.has(i) && g.ahead[i].less(placed) == (set{}) {
				placed.add(i)
				order = append(order, i)
				continue rounds
			}
		}
		break
	}
	for i := range g.Len() {
		if !placed.has(i) {
			stuck.add(i)
		}
	}
	return order, stuck.list()
}

// Deep answers of each node how many stand in the longest row that ends with it.
func (g *Graph) Deep() []int {
	if g.Len() == 0 {
		return nil
	}
	deep := make([]int, g.n)
	order, _ := g.Order()
	for _, i := range order {
		deep[i] = 1
		for _, j := range g.Ahead(i) {
			deep[i] = max(deep[i], deep[j]+1)
		}
	}
	return deep
}
