package expr

import "surety/api"

// tree is a tree of a kind that has only parts.
func tree(op int, pos api.Pos, parts ...api.Expr) *api.Expr {
	return &api.Expr{Op: op, L: parts, Pos: pos}
}

// whole reads an expression behind which nothing stands.
func (r *reader) whole() *api.Expr {
	e := r.expr()
	if r.tok(r.at).Kind != api.TokEnd {
		r.stray()
	}
	return e
}

func (r *reader) expr() *api.Expr {
	e := r.joined(orLevel)
	if !r.is(api.TokSign, "?") {
		return e
	}
	pos := r.pass()
	yes := r.expr()
	r.wantsSign(":")
	return tree(api.ExCond, pos, *e, *yes, *r.expr())
}

// joined reads operands with signs between them that are of a level or of a tighter one. What has been joined at a level is no operand of a tighter one, and of a comparison not even of its own.
func (r *reader) joined(loosest int) *api.Expr {
	e := r.unary()
	for tightest := termLevel; ; {
		op := r.sign().between
		level := levels[op]
		if level < loosest || level > tightest {
			return e
		}
		e = tree(op, r.pass(), *e, *r.joined(level + 1))
		tightest = level
		if level == cmpLevel {
			tightest--
		}
	}
}

func (r *reader) unary() *api.Expr {
	if op := r.sign().ahead; op != 0 {
		return tree(op, r.pass(), *r.unary())
	}
	return r.post()
}

func (r *reader) post() *api.Expr {
	e := r.first()
	for {
		switch {
		case r.is(api.TokSign, "."):
			e = tree(api.ExAttr, r.pass(), *e)
			e.S = r.anyName()
		case r.is(api.TokSign, "["):
			e = tree(api.ExIndex, r.pass(), *e, *r.expr())
			r.wantsSign("]")
		default:
			return e
		}
	}
}
