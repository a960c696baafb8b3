package expr

import (
	"slices"

	"surety/api"
	"surety/lex"
	"surety/value"
)

func literal(v api.Value, pos api.Pos) *api.Expr {
	return &api.Expr{Op: api.ExLit, V: v, Pos: pos}
}

// first reads what has no sign between its parts, but within brackets.
func (r *reader) first() *api.Expr {
	switch t := r.tok(r.at); t.Kind {
	case api.TokName:
		return r.named()
	case api.TokInt:
		return literal(value.Int(t.N), r.pass())
	case api.TokStr:
		return r.text()
	}
	if opens := r.sign().opens; opens != nil {
		return opens(r)
	}
	r.stray()
	return &api.Expr{}
}

// named reads a word that is a literal, a name, or a call.
func (r *reader) named() *api.Expr {
	switch s := r.tok(r.at).S; s {
	case "true", "false":
		return literal(value.Bool(s == "true"), r.pass())
	case "null":
		return literal(api.Value{}, r.pass())
	}
	e := &api.Expr{Op: api.ExName, Pos: r.place(), S: r.freeName()}
	if r.takesSign("(") {
		e.Op = api.ExCall
		e.L = r.row(")", r.putExpr)
	}
	return e
}

// row reads, one by one, what stands up to a sign, and that sign: commas stand between, and one may stand behind the last.
func (r *reader) row(end string, put func(l []api.Expr) []api.Expr) []api.Expr {
	var l []api.Expr
	for !r.takesSign(end) {
		l = put(l)
		if !r.takesSign(",") {
			r.wantsSign(end)
			break
		}
	}
	return l
}

// putExpr reads an expression, and puts it behind l.
func (r *reader) putExpr(l []api.Expr) []api.Expr { return append(l, *r.expr()) }

// putPair reads a pair, and puts its key and its value behind l.
func (r *reader) putPair(l []api.Expr) []api.Expr {
	l = append(l, *r.key())
	if !r.takesSign("=") {
		r.wantsSign(":")
	}
	return r.putExpr(l)
}

func (r *reader) key() *api.Expr {
	if r.tok(r.at).Kind == api.TokStr {
		return r.text()
	}
	pos := r.place()
	return literal(value.Str(r.anyName()), pos)
}

func (r *reader) brackets() *api.Expr {
	r.pass()
	e := r.expr()
	r.wantsSign(")")
	return e
}

func (r *reader) list() *api.Expr {
	pos := r.pass()
	if r.takesWord("for") {
		return r.loop(api.ExForList, pos, "]")
	}
	return tree(api.ExList, pos, r.row("]", r.putExpr)...)
}

// pairs reads a map. In it for is a name, if there stands behind it what stands behind a pair's.
func (r *reader) pairs() *api.Expr {
	pos := r.pass()
	behind := r.tok(r.at + 1)
	isName := behind.Kind == api.TokSign && (behind.S == "=" || behind.S == ":")
	if !isName && r.takesWord("for") {
		return r.loop(api.ExForMap, pos, "}")
	}
	return tree(api.ExMap, pos, r.row("}", r.putPair)...)
}

// loop reads what stands behind the word for, up to a sign, and that sign.
func (r *reader) loop(op int, pos api.Pos, end string) *api.Expr {
	e := &api.Expr{Op: op, S: r.freeName(), Pos: pos}
	if r.takesSign(",") {
		e.S2 = e.S
		e.S = r.freeName()
	}
	r.wantsWord("in")
	e.L = r.putExpr(e.L)
	r.wantsSign(":")
	e.L = r.putExpr(e.L)
	if op == api.ExForMap {
		r.wantsSign("=>")
		e.L = r.putExpr(e.L)
	}
	if r.takesWord("if") {
		e.L = r.putExpr(e.L)
	}
	r.wantsSign(end)
	return e
}

// text reads a string.
func (r *reader) text() *api.Expr {
	parts := r.tok(r.at).Parts
	pos := r.pass()
	if !slices.ContainsFunc(parts, func(p api.Part) bool { return p.Expr }) {
		return literal(value.Str(bytesOf(parts)), pos)
	}
	var l []api.Expr
	for _, p := range parts {
		if p.Expr {
			l = append(l, *r.inner(p))
		} else {
			l = append(l, *literal(value.Str(p.S), pos))
		}
	}
	return tree(api.ExText, pos, l...)
}

// bytesOf are the bytes of pieces that are no expressions.
func bytesOf(parts []api.Part) string {
	var b []byte
	for _, p := range parts {
		b = append(b, p.S...)
	}
	return string(b)
}

// inner reads the expression whose text stands in a string. Its depth isn't judged here, as it counts with what is around it.
func (r *reader) inner(p api.Part) *api.Expr {
	from := r.moved(p.Pos)
	l, d := lex.All(p.S)
	in := reader{l: l, signs: r.signs, ahead: api.Pos{At: from.At, Line: from.Line - 1, Col: from.Col - 1}}
	if d.Code != api.OK {
		r.fail(api.Diag{Code: d.Code, Pos: in.moved(d.Pos)})
		return &api.Expr{}
	}
	e := in.whole()
	if in.d.Code != api.OK {
		r.fail(in.d)
	}
	return e
}
