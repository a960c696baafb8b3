package decl

import (
	"testing"

	"surety/api"
	"surety/value"
)

// movedExpr is e in new memory, with other places.
func movedExpr(e api.Expr) api.Expr {
	e = copyOf(e)
	e.Pos = api.Pos{At: e.Pos.At + 1, Line: 7, Col: -1}
	for i := range e.L {
		e.L[i] = movedExpr(e.L[i])
	}
	// Nothing is the same everywhere.
	if e.L == nil {
		e.L = []api.Expr{}
	}
	return e
}

func movedFields(l []api.Field) []api.Field {
	moved := []api.Field{}
	for _, x := range l {
		moved = append(moved, api.Field{Name: x.Name, E: movedExpr(x.E)})
	}
	return moved
}

func movedConds(l []api.Cond) []api.Cond {
	moved := []api.Cond{}
	for _, x := range l {
		moved = append(moved, api.Cond{Name: x.Name, If: movedExpr(x.If), Say: movedExpr(x.Say)})
	}
	return moved
}

// moved is c in new memory, with other places.
func moved(c api.Config) api.Config {
	m := api.Config{Inputs: []api.Input{}, Resources: []api.Resource{}, Locals: movedFields(c.Locals), Outputs: movedFields(c.Outputs), Checks: movedConds(c.Checks)}
	for _, x := range c.Inputs {
		x.E = movedExpr(x.E)
		x.Pos.Line++
		m.Inputs = append(m.Inputs, x)
	}
	for _, x := range c.Resources {
		for _, e := range []**api.Expr{&x.Count, &x.Each} {
			if *e != nil {
				n := movedExpr(**e)
				*e = &n
			}
		}
		for _, l := range []*[]string{&x.Depends, &x.Ignore, &x.Trigger} {
			*l = append([]string{}, *l...)
		}
		x.Fields, x.Pre, x.Post = movedFields(x.Fields), movedConds(x.Pre), movedConds(x.Post)
		x.Pos.Col--
		m.Resources = append(m.Resources, x)
	}
	return m
}

// P12.2: configurations that differ in one thing; places are no matter, nothing is the same everywhere.
func TestSame(t *testing.T) {
	one, two := api.Expr{Op: api.ExLit, V: value.Int(1)}, api.Expr{Op: api.ExLit, V: value.Int(2)}
	exprs := []api.Expr{one, two, {}, {Op: api.ExLit, V: value.Mark(value.Int(1))}, {Op: api.ExName, S: "a"}, {Op: api.ExName, S2: "a"}, {Op: api.ExList, L: []api.Expr{one}}, {Op: api.ExList, L: []api.Expr{one, two}}, {Op: api.ExList, L: []api.Expr{two, one}}}
	resources := []api.Resource{
		{}, {Type: "a"}, {Name: "a"}, {Type: "a", Name: "b"}, {Guard: true}, {First: true}, {Guard: true, First: true}, {Pre: []api.Cond{{}}}, {Post: []api.Cond{{}}}, {Fields: []api.Field{{}}},
		{Depends: []string{"a"}}, {Ignore: []string{"a"}}, {Trigger: []string{"a"}}, {Depends: []string{""}}, {Depends: []string{"a", "b"}}, {Depends: []string{"b", "a"}}, {Ignore: []string{"a", "a"}}, {Trigger: []string{"b"}},
	}
	fields := [][]api.Field{{{Name: "a"}}, {{Name: "b"}, {Name: "a"}}, {{Name: "a"}, {Name: "b"}}}
	conds := [][]api.Cond{{{Name: "a"}}, {{Name: "b"}, {Name: "a"}}, {{Name: "a"}, {Name: "b"}}, {{Say: one}}}
	inputs := []api.Input{{}, {Name: "a"}, {Name: "b"}, {Has: true}, {T: api.Type{Kind: api.Int}}, {T: api.Type{Kind: api.List}}, {T: api.Type{Kind: api.List, Of: api.Int}}, {T: api.Type{Of: 9}}}
	for _, e := range exprs[1:] {
		if e.Op != 0 {
			inputs = append(inputs, api.Input{E: e})
			fields = append(fields, []api.Field{{Name: "c", E: e}})
			conds = append(conds, []api.Cond{{Name: "c", If: e}}, []api.Cond{{Name: "c", Say: e}})
		}
		resources = append(resources, api.Resource{Count: &e}, api.Resource{Each: &e}, api.Resource{Count: &e, Each: &one})
	}
	for _, l := range fields {
		resources = append(resources, api.Resource{Fields: l})
	}
	for _, l := range conds {
		resources = append(resources, api.Resource{Pre: l}, api.Resource{Post: l})
	}
	l := []api.Config{{}, {Inputs: make([]api.Input, 2)}, {Resources: make([]api.Resource, 2)}, {Locals: make([]api.Field, 1), Outputs: make([]api.Field, 1)}, {Locals: make([]api.Field, 2)}, {Checks: make([]api.Cond, 2)}}
	for _, x := range inputs {
		l = append(l, api.Config{Inputs: []api.Input{x}}, api.Config{Inputs: []api.Input{{Name: "z"}, x}})
	}
	for _, x := range resources {
		l = append(l, api.Config{Resources: []api.Resource{x}}, api.Config{Resources: []api.Resource{{Name: "z"}, x}})
	}
	for _, x := range fields {
		l = append(l, api.Config{Locals: x}, api.Config{Outputs: x})
	}
	for _, x := range conds {
		l = append(l, api.Config{Checks: x})
	}
	for i, a := range l {
		for j, b := range l {
			if b = moved(b); Same(a, b) != (i == j) || Same(b, a) != (i == j) {
				t.Errorf("Same(%v, %v) = %v", a, b, Same(a, b))
			}
		}
	}
}

// P12.2: texts that declare the same, and others.
func TestSameTexts(t *testing.T) {
	const s = `variable "a" { default = 1 } resource "note" "n" { text = "x" precondition { if = true } } output "o" { value = 1 }`
	c := reads(t, s)
	for _, same := range []string{
		"\n" + s,
		`output "o" { value = (1) } variable "a" { type = "any" default = 1 } resource "note" "n" { precondition { if = true say = "" } lifecycle {} depends_on = [] text = "x" } locals {}`,
	} {
		if d := reads(t, same); !Same(c, d) || !Same(d, c) {
			t.Errorf("%s: %s", same, brief(d))
		}
	}
	for _, other := range []string{
		"", s + ` output "p" { value = 1 }`, s + ` locals { a = 1 }`, s + ` variable "b" {}`, s + ` check "b" { if = true }`,
		`variable "a" {} resource "note" "n" { text = "x" precondition { if = true } } output "o" { value = 1 }`,
		`variable "a" { default = 1 } resource "note" "n" { text = "x" postcondition { if = true } } output "o" { value = 1 }`,
		`variable "a" { default = 1 } resource "note" "n" { text = "x" precondition { if = true say = " " } } output "o" { value = 1 }`,
		`variable "a" { default = 1 } resource "note" "n" { text = "x" count = 1 precondition { if = true } } output "o" { value = 1 }`,
	} {
		if d := reads(t, other); Same(c, d) || Same(d, c) {
			t.Errorf("%s: %s", other, brief(d))
		}
	}
}
