package expr

import "surety/api"

// reader reads trees of tokens. One that has failed stands behind all tokens, where nothing can go on: so all its methods end soon, and nobody needs to ask it on the way whether it has failed.
type reader struct {
	l     []api.Tok
	at    int
	signs map[string]sign
	// ahead is how many bytes and lines the whole text has ahead of the text whose tokens these are, and how many bytes its line has.
	ahead api.Pos
	d     api.Diag
}

func newReader(l []api.Tok, at int) *reader {
	return &reader{l: l, at: at, signs: signs()}
}

// tok is the token at a place; where none stands, an end without a place does.
func (r *reader) tok(at int) api.Tok {
	if at < 0 || at >= len(r.l) {
		return api.Tok{}
	}
	return r.l[at]
}

// place is the place of the next token in the whole text.
func (r *reader) place() api.Pos { return r.moved(r.tok(r.at).Pos) }

// moved is the place in the whole text of what stands at p in the tokens' own.
func (r *reader) moved(p api.Pos) api.Pos {
	if p.Line == 1 {
		p.Col += r.ahead.Col
	}
	p.Line += r.ahead.Line
	p.At += r.ahead.At
	return p
}

// pass goes on behind the next token, and tells its place.
func (r *reader) pass() api.Pos {
	p := r.place()
	r.at++
	return p
}

// fail keeps the first thing that is wrong, and stops the reader.
func (r *reader) fail(d api.Diag) {
	if r.d.Code == api.OK {
		r.d = d
	}
	r.at = len(r.l)
}

// stray tells that the next token can't stand where it does.
func (r *reader) stray() { r.fail(api.Diag{Code: api.ErrForm, Pos: r.place()}) }

// judge is what is wrong with what has been read, whose first token has a place. That it is too deep is told last.
func (r *reader) judge(e api.Expr, first api.Pos) api.Diag {
	if r.d.Code == api.OK && Depth(e) > api.MaxNest {
		return api.Diag{Code: api.ErrDeep, Pos: first}
	}
	return r.d
}

// is tells whether the next token is of a kind, and has S.
func (r *reader) is(kind int, s string) bool {
	t := r.tok(r.at)
	return t.Kind == kind && t.S == s
}

// takes passes the next token, if it is of a kind, and has S.
func (r *reader) takes(kind int, s string) bool {
	if !r.is(kind, s) {
		return false
	}
	r.pass()
	return true
}

func (r *reader) takesSign(s string) bool { return r.takes(api.TokSign, s) }

func (r *reader) takesWord(s string) bool { return r.takes(api.TokName, s) }

func (r *reader) wantsSign(s string) {
	if !r.takesSign(s) {
		r.stray()
	}
}

func (r *reader) wantsWord(s string) {
	if !r.takesWord(s) {
		r.stray()
	}
}

// anyName takes a name, which may be reserved.
func (r *reader) anyName() string {
	t := r.tok(r.at)
	if t.Kind != api.TokName {
		r.stray()
		return ""
	}
	r.pass()
	return t.S
}

// freeName takes a name that isn't reserved.
func (r *reader) freeName() string {
	if Reserved(r.tok(r.at).S) {
		r.stray()
	}
	return r.anyName()
}
