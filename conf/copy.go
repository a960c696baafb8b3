package conf

import (
	"slices"

	"surety/api"
	"surety/value"
)

// copies is a list in new memory, of what f makes of each element of l.
func copies[T any](l []T, f func(T) T) []T {
	if l == nil {
		return nil
	}
	made := make([]T, len(l))
	for i, x := range l {
		made[i] = f(x)
	}
	return made
}

// copyOf is x in new memory.
func copyOf(x api.Item) api.Item {
	x.Labels = slices.Clone(x.Labels)
	x.E = copyOfExpr(x.E)
	x.Items = copies(x.Items, copyOf)
	return x
}

func copyOfExpr(e api.Expr) api.Expr {
	e.V = value.Copy(e.V)
	e.L = copies(e.L, copyOfExpr)
	return e
}
