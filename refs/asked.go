package refs

import (
	"iter"

	"surety/api"
)

// asked is what e asks for and where, from the left on, each as often as e does.
func asked(e api.Expr) iter.Seq2[api.Ref, api.Pos] {
	return func(yield func(api.Ref, api.Pos) bool) {
		// How many fors around bind a name: one for may bind what another one has bound already.
		bound := map[string]int{}
		var tree func(e *api.Expr, name string) bool
		tree = func(e *api.Expr, name string) bool {
			if e.Op == api.ExName && bound[e.S] == 0 && !yield(api.Ref{Root: e.S, Name: name}, e.Pos) {
				return false
			}
			for i := range e.L {
				if i == 1 {
					bind(bound, e, 1)
				}
				if !tree(&e.L[i], attribute(e)) {
					return false
				}
			}
			if len(e.L) > 1 {
				bind(bound, e, -1)
			}
			return true
		}
		tree(&e, "")
	}
}

// attribute is what a tree's parts are asked for by: none, but in an ExAttr.
func attribute(e *api.Expr) string {
	if e.Op == api.ExAttr {
		return e.S
	}
	return ""
}

// bind counts the names of a for, if e is one, n times more.
func bind(bound map[string]int, e *api.Expr, n int) {
	if e.Op != api.ExForList && e.Op != api.ExForMap {
		return
	}
	bound[e.S] += n
	if e.S2 != "" {
		bound[e.S2] += n
	}
}
