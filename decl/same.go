package decl

import (
	"slices"

	"surety/api"
	"surety/expr"
)

// Same tells whether both are the same, places aside.
func Same(a, b api.Config) bool {
	return slices.EqualFunc(a.Inputs, b.Inputs, sameInput) &&
		slices.EqualFunc(a.Locals, b.Locals, sameField) &&
		slices.EqualFunc(a.Resources, b.Resources, sameResource) &&
		slices.EqualFunc(a.Outputs, b.Outputs, sameField) &&
		slices.EqualFunc(a.Checks, b.Checks, sameCond)
}

func sameInput(a, b api.Input) bool {
	return a.Name == b.Name && a.T == b.T && a.Has == b.Has && expr.Same(a.E, b.E)
}

func sameField(a, b api.Field) bool { return a.Name == b.Name && expr.Same(a.E, b.E) }

func sameCond(a, b api.Cond) bool {
	return a.Name == b.Name && expr.Same(a.If, b.If) && expr.Same(a.Say, b.Say)
}

func sameResource(a, b api.Resource) bool {
	return a.Type == b.Type && a.Name == b.Name &&
		slices.EqualFunc(a.Fields, b.Fields, sameField) &&
		sameChoice(a.Count, b.Count) && sameChoice(a.Each, b.Each) &&
		slices.Equal(a.Depends, b.Depends) &&
		a.Guard == b.Guard && a.First == b.First &&
		slices.Equal(a.Ignore, b.Ignore) && slices.Equal(a.Trigger, b.Trigger) &&
		slices.EqualFunc(a.Pre, b.Pre, sameCond) && slices.EqualFunc(a.Post, b.Post, sameCond)
}

// sameChoice tells whether both are the same expressions, or none.
func sameChoice(a, b *api.Expr) bool {
	if a == nil || b == nil {
		return a == b
	}
	return expr.Same(*a, *b)
}
