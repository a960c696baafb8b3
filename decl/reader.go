package decl

import (
	"surety/addr"
	"surety/api"
	"surety/schema"
	"surety/value"
)

// The blocks outside of all others, and what is declared in one of them.
const (
	variable = "variable"
	locals   = "locals"
	resource = "resource"
	output   = "output"
	check    = "check"
	local    = "local"
)

// thing is what can be declared once: its kind, and its names (one, but of a resource two).
type thing struct {
	kind  string
	names [2]string
}

// reader reads what items declare. When something is wrong it is left as it is: then nothing of it is told.
type reader struct {
	c        api.Config
	declared map[thing]struct{}
}

// text reads what stands outside of all blocks.
func (r *reader) text(l []api.Item) api.Diag {
	return body(api.Item{Items: l},
		blocks(variable, r.variable),
		blocks(locals, r.locals),
		blocks(resource, r.resource),
		blocks(output, r.output),
		blocks(check, r.check),
	)
}

// labelled tells what is wrong with a block's labels: there are to be as many as these, and each is asked of its own.
func labelled(b api.Item, are ...func(label string) api.Errno) api.Diag {
	if len(b.Labels) != len(are) {
		return wrong(b, api.ErrArg)
	}
	for i, is := range are {
		if e := is(b.Labels[i]); e != api.OK {
			return api.Diag{Code: e, Pos: b.Pos, What: b.Labels[i]}
		}
	}
	return api.Diag{}
}

func isName(label string) api.Errno {
	if !addr.Name(label) {
		return api.ErrArg
	}
	return api.OK
}

func isType(label string) api.Errno {
	_, e := schema.Attrs(label)
	return e
}

// declare tells whether what is declared at a place, of which there are one or two names, has been declared already.
func (r *reader) declare(at api.Pos, kind string, names ...string) api.Diag {
	x := thing{kind: kind}
	copy(x.names[:], names)
	if _, twice := r.declared[x]; twice {
		return api.Diag{Code: api.ErrTwice, Pos: at, What: names[len(names)-1]}
	}
	r.declared[x] = struct{}{}
	return api.Diag{}
}

// begin tells what is wrong with a block's labels, which name what it declares.
func (r *reader) begin(b api.Item, are ...func(label string) api.Errno) api.Diag {
	if d := labelled(b, are...); d.Code != api.OK {
		return d
	}
	return r.declare(b.Pos, b.Name, b.Labels...)
}

func (r *reader) variable(b api.Item) api.Diag {
	if d := r.begin(b, isName); d.Code != api.OK {
		return d
	}
	x := api.Input{Name: b.Labels[0], Pos: b.Pos}
	d := body(b,
		typeText("type", &x.T),
		expression("default", func(e api.Expr) { x.Has, x.E = true, e }),
	)
	r.c.Inputs = append(r.c.Inputs, x)
	return d
}

func (r *reader) locals(b api.Item) api.Diag {
	if d := labelled(b); d.Code != api.OK {
		return d
	}
	for _, x := range b.Items {
		if d := r.local(x); d.Code != api.OK {
			return d
		}
	}
	return api.Diag{}
}

func (r *reader) local(x api.Item) api.Diag {
	switch {
	case x.Block:
		return wrong(x, api.ErrName)
	case !addr.Name(x.Name):
		return wrong(x, api.ErrArg)
	}
	r.c.Locals = append(r.c.Locals, api.Field{Name: x.Name, E: copyOf(x.E)})
	return r.declare(x.Pos, local, x.Name)
}

func (r *reader) output(b api.Item) api.Diag {
	if d := r.begin(b, isName); d.Code != api.OK {
		return d
	}
	x := api.Field{Name: b.Labels[0]}
	d := body(b, needed(expression("value", func(e api.Expr) { x.E = e })))
	r.c.Outputs = append(r.c.Outputs, x)
	return d
}

func (r *reader) check(b api.Item) api.Diag {
	if d := r.begin(b, isName); d.Code != api.OK {
		return d
	}
	x, d := condition(b)
	x.Name = b.Labels[0]
	r.c.Checks = append(r.c.Checks, x)
	return d
}

// condition reads what stands in a block that is a condition.
func condition(b api.Item) (api.Cond, api.Diag) {
	c := api.Cond{Say: api.Expr{Op: api.ExLit, V: value.Str(""), Pos: b.Pos}}
	d := body(b,
		needed(expression("if", func(e api.Expr) { c.If = e })),
		expression("say", func(e api.Expr) { c.Say = e }),
	)
	return c, d
}
