package eval

import (
	"surety/api"
	"surety/typ"
	"surety/value"
)

// decided is the value of an and, or of an or, where one part may decide alone: a false one of an and, a true one of an or.
func (w *walk) decided(e api.Expr) (api.Value, api.Diag) {
	a, d := w.truth(e.L[0], e.Pos)
	if d.Code != api.OK || decides(e.Op, a) {
		return a, d
	}
	b, d := w.truth(e.L[1], e.Pos)
	if d.Code != api.OK {
		return api.Value{}, d
	}
	// Where the first one doesn't decide, all hangs on the second one, if both are known.
	v := b
	if !decides(e.Op, b) && (isUnknown(a) || isUnknown(b)) {
		v = unknown(api.Bool)
	}
	return marked(v, a.Secret || b.Secret), api.Diag{}
}

func decides(op int, v api.Value) bool {
	return !isUnknown(v) && isTrue(v) == (op == api.ExOr)
}

// chosen is the value of a condition's second part, or of its third one.
func (w *walk) chosen(e api.Expr) (api.Value, api.Diag) {
	c, d := w.truth(e.L[0], e.Pos)
	if d.Code != api.OK {
		return api.Value{}, d
	}
	if isUnknown(c) {
		return w.either(e, c.Secret)
	}
	part := e.L[1]
	if !isTrue(c) {
		part = e.L[2]
	}
	v, d := w.worth(part)
	if d.Code != api.OK {
		return api.Value{}, d
	}
	return marked(v, c.Secret), api.Diag{}
}

// either is the value of a condition of which it isn't known which part counts: secret tells whether that is marked.
func (w *walk) either(e api.Expr, secret bool) (api.Value, api.Diag) {
	a, d := w.worth(e.L[1])
	if d.Code != api.OK {
		return api.Value{}, d
	}
	b, d := w.worth(e.L[2])
	if d.Code != api.OK {
		return api.Value{}, d
	}
	v := a
	if !value.Known(a) || !value.Known(b) || !value.Like(a, b) {
		v = value.Unknown(typ.Join(value.TypeOf(a), value.TypeOf(b)))
	}
	return marked(v, secret || value.Secret(a) || value.Secret(b)), api.Diag{}
}
