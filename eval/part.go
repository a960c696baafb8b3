package eval

import (
	"slices"

	"surety/api"
	"surety/fun"
	"surety/num"
	"surety/value"
)

// ofParts is the value of a tree whose parts, of which there are as many as may be, have these values.
func ofParts(e api.Expr, l []api.Value) (v api.Value, what string, code api.Errno) {
	switch e.Op {
	case api.ExList:
		return api.Value{Kind: api.VList, L: l}, "", api.OK
	case api.ExCall:
		v, code = fun.Call(e.S, l)
		return v, e.S, code
	case api.ExAttr:
		v, code = element(l[0], value.Str(e.S))
		if code == api.ErrNone {
			what = e.S
		}
		return v, what, code
	case api.ExIndex:
		v, code = element(l[0], l[1])
		return marked(v, value.Secret(l[1])), "", code
	}
	v, code = signed(e.Op, l)
	return marked(v, slices.ContainsFunc(l, value.Secret)), "", code
}

// element is what a list has at a place, or a map at a key, with the list's or the map's own mark.
func element(v, at api.Value) (api.Value, api.Errno) {
	switch {
	case isUnknown(v) || isUnknown(at):
		return marked(unknown(api.Any), v.Secret), api.OK
	case at.Kind == api.VStr:
		return value.Get(v, at.S)
	case at.Kind == api.VInt:
		return value.At(v, at.I)
	}
	return api.Value{}, api.ErrType
}

// signed is what a sign makes of its operands, marks aside.
func signed(op int, l []api.Value) (api.Value, api.Errno) {
	switch op {
	case api.ExNot:
		return not(l[0])
	case api.ExEq:
		return alike(l[0], l[1]), api.OK
	case api.ExNe:
		return not(alike(l[0], l[1]))
	case api.ExLt, api.ExLe, api.ExGt, api.ExGe:
		return compared(op, l[0], l[1])
	}
	return reckoned(op, l)
}

func not(v api.Value) (api.Value, api.Errno) {
	switch {
	case !mayBe(v, api.Bool):
		return api.Value{}, api.ErrType
	case isUnknown(v):
		return unknown(api.Bool), api.OK
	}
	return value.Bool(!isTrue(v)), api.OK
}

func alike(a, b api.Value) api.Value {
	if !value.Known(a) || !value.Known(b) {
		return unknown(api.Bool)
	}
	return value.Bool(value.Like(a, b))
}

// compared tells how two numbers, or two texts, stand to each other.
func compared(op int, a, b api.Value) (api.Value, api.Errno) {
	switch {
	case !(mayBe(a, api.Int) && mayBe(b, api.Int)) && !(mayBe(a, api.Str) && mayBe(b, api.Str)):
		return api.Value{}, api.ErrType
	case isUnknown(a) || isUnknown(b):
		return unknown(api.Bool), api.OK
	case op == api.ExLt:
		return value.Bool(value.Less(a, b)), api.OK
	case op == api.ExLe:
		return value.Bool(!value.Less(b, a)), api.OK
	case op == api.ExGt:
		return value.Bool(value.Less(b, a)), api.OK
	}
	return value.Bool(!value.Less(a, b)), api.OK
}

// reckoned is the number that a sign makes of one, or of two.
func reckoned(op int, l []api.Value) (api.Value, api.Errno) {
	if slices.ContainsFunc(l, isNoNumber) {
		return api.Value{}, api.ErrType
	}
	if slices.ContainsFunc(l, isUnknown) {
		return unknown(api.Int), api.OK
	}
	// The last one is the only one, if there is one.
	n, e := number(op, l[0].I, l[len(l)-1].I)
	return value.Int(n), e
}

func isNoNumber(v api.Value) bool { return !mayBe(v, api.Int) }

func number(op int, a, b int64) (int64, api.Errno) {
	switch op {
	case api.ExNeg:
		return num.Neg(a)
	case api.ExMul:
		return num.Mul(a, b)
	case api.ExDiv:
		return num.Div(a, b)
	case api.ExMod:
		return num.Mod(a, b)
	case api.ExAdd:
		return num.Add(a, b)
	}
	return num.Sub(a, b)
}
