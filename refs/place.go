package refs

import (
	"slices"

	"surety/api"
	"surety/schema"
)

// The roots that aren't types of resources.
const (
	variables = "var"
	locals    = "local"
	each      = "each"
	count     = "count"
	self      = "self"
)

// place is an expression of a configuration, and what may be asked for in it.
type place struct {
	e api.Expr
	s sight
}

// sight is what may be asked for at a place: nothing, if it is zero.
type sight struct {
	// all: what the whole configuration declares, which names has.
	all   bool
	names set
	// each and count: the resource has for_each, has count; self: there is an object of the type of.
	each, count, self bool
	of                string
}

// places are c's, in their order.
func places(c api.Config) []place {
	all := sight{all: true, names: declared(c)}
	var l []place
	for _, x := range c.Inputs {
		if x.Has {
			l = append(l, place{x.E, sight{}})
		}
	}
	for _, x := range c.Locals {
		l = append(l, place{x.E, all})
	}
	for _, r := range c.Resources {
		l = append(l, within(r, all)...)
	}
	for _, x := range c.Outputs {
		l = append(l, place{x.E, all})
	}
	for _, x := range c.Checks {
		l = append(l, place{x.If, all}, place{x.Say, all})
	}
	return l
}

// within are the places of a resource, in their order: s is what may be asked for in all of them.
func within(r api.Resource, s sight) []place {
	var l []place
	add := func(e api.Expr) { l = append(l, place{e, s}) }
	if r.Count != nil {
		add(*r.Count)
	}
	if r.Each != nil {
		add(*r.Each)
	}
	s.each, s.count = r.Each != nil, r.Count != nil
	for _, f := range r.Fields {
		add(f.E)
	}
	for _, x := range r.Pre {
		add(x.If)
		add(x.Say)
	}
	s.self, s.of = true, r.Type
	for _, x := range r.Post {
		add(x.If)
		add(x.Say)
	}
	return l
}

// declared are the variables, the locals and the resources of c.
func declared(c api.Config) set {
	s := set{}
	for _, x := range c.Inputs {
		s.add(api.Ref{Root: variables, Name: x.Name})
	}
	for _, x := range c.Locals {
		s.add(local(x))
	}
	for _, x := range c.Resources {
		if r, ok := resource(x); ok {
			s.add(r)
		}
	}
	return s
}

// resource is what asks for a resource. Nothing asks for one of a type that isn't one, though it be called as another root.
func resource(x api.Resource) (api.Ref, bool) {
	if !isType(x.Type) {
		return api.Ref{}, false
	}
	return api.Ref{Root: x.Type, Name: x.Name}, true
}

// local is what asks for a local.
func local(x api.Field) api.Ref { return api.Ref{Root: locals, Name: x.Name} }

func isType(t string) bool { return slices.Contains(schema.Types(), t) }

// allows tells whether a root may be asked for.
func (s sight) allows(root string) bool {
	switch root {
	case variables, locals:
		return s.all
	case each:
		return s.each
	case count:
		return s.count
	case self:
		return s.self
	}
	return s.all && isType(root)
}

// declares tells whether what is asked for is declared; a root alone never is.
func (s sight) declares(r api.Ref) bool {
	if r.Name == "" || !s.allows(r.Root) {
		return false
	}
	switch r.Root {
	case each:
		return r.Name == "key" || r.Name == "value"
	case count:
		return r.Name == "index"
	case self:
		_, e := schema.Find(s.of, r.Name)
		return e == api.OK
	}
	return s.names.has(r)
}

// missing is the text of what isn't declared.
func (s sight) missing(r api.Ref) string {
	if r.Name == "" || !s.allows(r.Root) {
		return r.Root
	}
	return r.Root + "." + r.Name
}
