package eval

import (
	"slices"

	"surety/api"
	"surety/value"
)

// walk is one evaluation: what names stand for, those of the innermost for last, and how many steps were taken. With a Diag, which is the first one and ends all, a value is zero.
type walk struct {
	names []api.Bind
	steps int
}

// worth is the value of e, if it may be. It is one step.
func (w *walk) worth(e api.Expr) (api.Value, api.Diag) {
	w.steps++
	if w.steps > api.MaxFuel {
		return wrong(e.Pos, api.ErrLong, "fuel")
	}
	if !isTree(e) {
		return wrong(e.Pos, api.ErrArg, "")
	}
	v, d := w.byKind(e)
	if d.Code == api.OK && value.Check(v) != api.OK {
		return wrong(e.Pos, api.ErrLong, "")
	}
	return v, d
}

// isTree tells whether e is of a kind, and has as many parts as that needs.
func isTree(e api.Expr) bool {
	n := len(e.L)
	switch e.Op {
	case api.ExLit, api.ExName, api.ExCall, api.ExList, api.ExText:
		return true
	case api.ExAttr, api.ExNot, api.ExNeg:
		return n == 1
	case api.ExCond:
		return n == 3
	case api.ExMap:
		return n%2 == 0
	case api.ExForList:
		return n == 2 || n == 3
	case api.ExForMap:
		return n == 3 || n == 4
	}
	return e.Op >= api.ExIndex && e.Op <= api.ExOr && n == 2
}

// byKind is the value of e, which may be too much.
func (w *walk) byKind(e api.Expr) (api.Value, api.Diag) {
	switch e.Op {
	case api.ExLit:
		return e.V, api.Diag{}
	case api.ExName:
		return w.name(e)
	case api.ExAnd, api.ExOr:
		return w.decided(e)
	case api.ExCond:
		return w.chosen(e)
	case api.ExMap:
		return w.pairs(e)
	case api.ExForList, api.ExForMap:
		return w.loop(e)
	case api.ExText:
		return w.text(e)
	}
	return w.joined(e)
}

// name is what a name stands for: the innermost one counts, which is the last one.
func (w *walk) name(e api.Expr) (api.Value, api.Diag) {
	for _, b := range slices.Backward(w.names) {
		if b.Name == e.S {
			return b.V, api.Diag{}
		}
	}
	return wrong(e.Pos, api.ErrName, e.S)
}

// joined is the value of what comes to all its parts, and tells what is wrong with them behind that, at its own place.
func (w *walk) joined(e api.Expr) (api.Value, api.Diag) {
	var l []api.Value
	for _, part := range e.L {
		v, d := w.worth(part)
		if d.Code != api.OK {
			return api.Value{}, d
		}
		l = append(l, v)
	}
	v, what, code := ofParts(e, l)
	if code != api.OK {
		return wrong(e.Pos, code, what)
	}
	return v, api.Diag{}
}

// truth is the value of e, which may be a truth; that it may not is told at a place.
func (w *walk) truth(e api.Expr, at api.Pos) (api.Value, api.Diag) {
	v, d := w.worth(e)
	if d.Code == api.OK && !mayBe(v, api.Bool) {
		return wrong(at, api.ErrType, "")
	}
	return v, d
}

func wrong(at api.Pos, code api.Errno, what string) (api.Value, api.Diag) {
	return api.Value{}, api.Diag{Code: code, Pos: at, What: what}
}

// mayBe tells whether v is of a Kind of types, or is something unknown that may come to be of it.
func mayBe(v api.Value, kind int) bool {
	if isUnknown(v) {
		return v.T.Kind == api.Any || v.T.Kind == kind
	}
	return value.TypeOf(v).Kind == kind
}

func isUnknown(v api.Value) bool { return v.Kind == api.VUnknown }

func isTrue(v api.Value) bool { return v.I != 0 }

// unknown is something unknown of a Kind of types.
func unknown(kind int) api.Value { return value.Unknown(api.Type{Kind: kind}) }

// marked is v, marked itself if it is, or if secret says so.
func marked(v api.Value, secret bool) api.Value {
	v.Secret = v.Secret || secret
	return v
}
