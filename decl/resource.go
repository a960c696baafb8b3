package decl

import (
	"slices"
	"strings"

	"surety/addr"
	"surety/api"
	"surety/schema"
)

func (r *reader) resource(b api.Item) api.Diag {
	if d := r.begin(b, isType, isName); d.Code != api.OK {
		return d
	}
	if len(r.c.Resources) == api.MaxRes {
		return wrong(b, api.ErrLong)
	}
	x := api.Resource{Type: b.Labels[0], Name: b.Labels[1], Pos: b.Pos}
	slots := append(fields(x.Type, &x.Fields),
		either("count", &x.Count, &x.Each),
		either("for_each", &x.Each, &x.Count),
		texts("depends_on", &x.Depends, isReference),
		lifecycle(&x),
		conditions("precondition", &x.Pre),
		conditions("postcondition", &x.Post),
	)
	d := body(b, slots...)
	r.c.Resources = append(r.c.Resources, x)
	return d
}

// fields are slots of the attributes of a type that may be given, in their order.
func fields(of string, to *[]api.Field) []slot {
	var l []slot
	attrs, _ := schema.Attrs(of)
	for _, a := range attrs {
		if a.Computed {
			continue
		}
		s := expression(a.Name, func(e api.Expr) { *to = append(*to, api.Field{Name: a.Name, E: e}) })
		s.must = a.Need
		l = append(l, s)
	}
	return l
}

// lifecycle is a slot of one block, of what else is told of a resource.
func lifecycle(x *api.Resource) slot {
	mayIgnore := func(name string) bool {
		a, e := schema.Find(x.Type, name)
		return e == api.OK && !a.Computed
	}
	return slot{name: "lifecycle", block: true, take: func(b api.Item) api.Diag {
		if d := labelled(b); d.Code != api.OK {
			return d
		}
		return body(b,
			truth("prevent_destroy", &x.Guard),
			truth("create_before_destroy", &x.First),
			texts("ignore_changes", &x.Ignore, mayIgnore),
			texts("replace_triggered_by", &x.Trigger, isReference),
		)
	}}
}

// conditions is a slot of any number of blocks that are conditions.
func conditions(name string, to *[]api.Cond) slot {
	return blocks(name, func(b api.Item) api.Diag {
		if d := labelled(b); d.Code != api.OK {
			return d
		}
		c, d := condition(b)
		*to = append(*to, c)
		return d
	})
}

// dot is between a reference text's type and its name; no type has one.
const dot = "."

// isReference tells whether s is a reference text.
func isReference(s string) bool {
	of, name, _ := strings.Cut(s, dot)
	return isType(of) == api.OK && addr.Name(name)
}

// references tells of the first text of a resource that names one that isn't declared.
func (r *reader) references() api.Diag {
	for _, x := range r.c.Resources {
		for _, s := range slices.Concat(x.Depends, x.Trigger) {
			of, name, _ := strings.Cut(s, dot)
			if _, ok := r.declared[thing{resource, [2]string{of, name}}]; !ok {
				return api.Diag{Code: api.ErrName, Pos: x.Pos, What: s}
			}
		}
	}
	return api.Diag{}
}
