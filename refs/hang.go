package refs

import "surety/api"

// Hangs are the places of the resources on which the one at the place i hangs, rising.
func Hangs(c api.Config, i int) []int {
	if i < 0 || i >= len(c.Resources) {
		return nil
	}
	r := c.Resources[i]
	met, texts := reached(c, r), map[string]struct{}{}
	for _, l := range [][]string{r.Depends, r.Trigger} {
		for _, x := range l {
			texts[x] = struct{}{}
		}
	}
	var l []int
	for at, x := range c.Resources {
		_, named := texts[x.Type+"."+x.Name]
		if r, ok := resource(x); named || ok && met.has(r) {
			l = append(l, at)
		}
	}
	return l
}

// reached is what is declared of what r's places ask for, and the locals that they ask for, and so on.
func reached(c api.Config, r api.Resource) set {
	led := map[api.Ref][]api.Expr{}
	for _, x := range c.Locals {
		led[local(x)] = append(led[local(x)], x.E)
	}
	all := sight{all: true, names: declared(c)}
	met := set{}
	var todo []api.Expr
	for _, p := range within(r, all) {
		todo = append(todo, p.e)
	}
	for len(todo) > 0 {
		e := todo[0]
		todo = todo[1:]
		for x := range asked(e) {
			// A local that was met already has been, or will be, gone through.
			if !met.has(x) && all.declares(x) {
				met.add(x)
				todo = append(todo, led[x]...)
			}
		}
	}
	return met
}
