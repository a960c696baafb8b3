package show

import (
	"math"

	"surety/api"
	"surety/expr"
	"surety/lex"
	"surety/value"
)

// counts has, of each kind of tree, how many parts it has at least, and at most.
var counts = [api.ExText + 1][2]int{
	api.ExAttr: {1, 1}, api.ExIndex: {2, 2}, api.ExCall: {0, api.MaxItems},
	api.ExNot: {1, 1}, api.ExNeg: {1, 1},
	api.ExMul: {2, 2}, api.ExDiv: {2, 2}, api.ExMod: {2, 2}, api.ExAdd: {2, 2}, api.ExSub: {2, 2},
	api.ExLt: {2, 2}, api.ExLe: {2, 2}, api.ExGt: {2, 2}, api.ExGe: {2, 2}, api.ExEq: {2, 2}, api.ExNe: {2, 2},
	api.ExAnd: {2, 2}, api.ExOr: {2, 2}, api.ExCond: {3, 3},
	api.ExList: {0, api.MaxItems}, api.ExMap: {0, 2 * api.MaxItems},
	api.ExForList: {2, 3}, api.ExForMap: {3, 4}, api.ExText: {1, math.MaxInt},
}

// spot is where a tree stands: in how many others, and whether one of these is a string.
type spot struct {
	depth    int
	inString bool
}

// isTree tells whether e may be printed where it stands. It goes no deeper than into a tree that may be.
func isTree(e api.Expr, at spot) bool {
	if at.depth == api.MaxNest || e.Op < api.ExLit || e.Op > api.ExText {
		return false
	}
	if n := counts[e.Op]; len(e.L) < n[0] || len(e.L) > n[1] {
		return false
	}
	return hasNames(e) && hasValue(e) && !(at.inString && breaksStrings(e)) && hasParts(e, at)
}

// hasNames tells whether e has the names of its kind, and no others.
func hasNames(e api.Expr) bool {
	switch e.Op {
	case api.ExName, api.ExCall:
		return isFree(e.S) && e.S2 == ""
	case api.ExAttr:
		return isName(e.S) && e.S2 == ""
	case api.ExForList, api.ExForMap:
		return isFree(e.S) && (e.S2 == "" || isFree(e.S2))
	}
	return e.S == "" && e.S2 == ""
}

// hasValue tells whether e has a value that may be written, if it is a literal, and none if it isn't.
func hasValue(e api.Expr) bool {
	if e.Op != api.ExLit {
		return value.Same(e.V, api.Value{})
	}
	return e.V.Kind <= api.VStr && !e.V.Secret && e.V.I >= 0 && value.Check(e.V) == api.OK
}

// breaksStrings tells whether of e itself signs are written that no expression in a string has.
func breaksStrings(e api.Expr) bool {
	return isText(e) || e.Op == api.ExText || e.Op == api.ExMap || e.Op == api.ExForMap
}

func isText(e api.Expr) bool { return e.Op == api.ExLit && e.V.Kind == api.VStr }

// hasParts tells whether e's parts, of which there are as many as may be, may stand in it.
func hasParts(e api.Expr, at spot) bool {
	at.depth++
	for i, part := range e.L {
		if e.Op == api.ExMap && i%2 == 0 && !isText(part) && part.Op != api.ExText {
			return false
		}
		if e.Op == api.ExText {
			if isText(part) && !isPiece(e.L, i) {
				return false
			}
			at.inString = !isText(part)
		}
		if !isTree(part, at) {
			return false
		}
	}
	return e.Op != api.ExMap || len(e.L)%2 == 0
}

// isPiece tells whether the bytes at a place in a string are read as one piece of several: without expressions around them they would be no string's part.
func isPiece(l []api.Expr, i int) bool {
	return l[i].V.S != "" && len(l) > 1 && (i == 0 || !isText(l[i-1]))
}

// isName tells whether s is a name's token.
func isName(s string) bool {
	l, d := lex.All(s)
	return d.Code == api.OK && l[0].Kind == api.TokName && l[0].S == s
}

// isFree tells whether s is a name that stands for something.
func isFree(s string) bool { return isName(s) && !expr.Reserved(s) }
