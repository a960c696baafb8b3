package expr

import "surety/api"

// The levels of the signs between two operands, the loosest first.
const (
	orLevel = iota + 1
	andLevel
	cmpLevel
	sumLevel
	termLevel
)

// levels has the level of each kind of tree whose sign stands between two operands; 0: it doesn't.
var levels = [api.ExText + 1]int{
	api.ExOr:  orLevel,
	api.ExAnd: andLevel,
	api.ExLt:  cmpLevel, api.ExLe: cmpLevel, api.ExGt: cmpLevel, api.ExGe: cmpLevel, api.ExEq: cmpLevel, api.ExNe: cmpLevel,
	api.ExAdd: sumLevel, api.ExSub: sumLevel,
	api.ExMul: termLevel, api.ExDiv: termLevel, api.ExMod: termLevel,
}

// sign is what a sign makes: between two operands, and ahead of one, a tree of a kind (or none); and what it opens is read by a method (or by none).
type sign struct {
	between, ahead int
	opens          func(*reader) *api.Expr
}

func signs() map[string]sign {
	return map[string]sign{
		"||": {between: api.ExOr},
		"&&": {between: api.ExAnd},
		"<":  {between: api.ExLt},
		"<=": {between: api.ExLe},
		">":  {between: api.ExGt},
		">=": {between: api.ExGe},
		"==": {between: api.ExEq},
		"!=": {between: api.ExNe},
		"+":  {between: api.ExAdd},
		"-":  {between: api.ExSub, ahead: api.ExNeg},
		"*":  {between: api.ExMul},
		"/":  {between: api.ExDiv},
		"%":  {between: api.ExMod},
		"!":  {ahead: api.ExNot},
		"(":  {opens: (*reader).brackets},
		"[":  {opens: (*reader).list},
		"{":  {opens: (*reader).pairs},
	}
}

// sign is what the next token makes, if it is a sign.
func (r *reader) sign() sign {
	t := r.tok(r.at)
	if t.Kind != api.TokSign {
		return sign{}
	}
	return r.signs[t.S]
}
