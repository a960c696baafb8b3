package conf

import (
	"surety/api"
	"surety/expr"
)

// mostLabels is how many labels a block has at most.
const mostLabels = 4

// tokens are all those of a text.
type tokens []api.Tok

func (l tokens) at(p place) api.Tok { return l[p] }

// place is how many tokens have been passed.
type place int

func (p *place) pass() { *p++ }

// names are those that the attributes of a block have.
type names map[string]struct{}

// reader reads items of tokens. It never asks for one behind the end, as no item goes on there, and only the whole text is passed with it.
type reader struct {
	tokens
	place
}

func (r *reader) next() api.Tok { return r.at(r.place) }

// takes passes the next token, if it is of a kind, and has S.
func (r *reader) takes(kind int, s string) bool {
	if t := r.next(); t.Kind != kind || t.S != s {
		return false
	}
	r.pass()
	return true
}

// wrong tells an error of the next token.
func (r *reader) wrong(e api.Errno) api.Diag {
	return api.Diag{Code: e, Pos: r.next().Pos}
}

// items reads items up to a token of a kind that has S, and that token.
func (r *reader) items(kind int, s string) ([]api.Item, api.Diag) {
	var l []api.Item
	met := names{}
	for !r.takes(kind, s) {
		x, d := r.item(len(l), met)
		if d.Code != api.OK {
			return nil, d
		}
		l = append(l, x)
	}
	return l, api.Diag{}
}

// item reads the item that stands behind so many others in its block, whose attributes' names have been met.
func (r *reader) item(others int, met names) (api.Item, api.Diag) {
	name := r.next()
	if name.Kind != api.TokName {
		return api.Item{}, r.wrong(api.ErrForm)
	}
	if others == api.MaxItems {
		return api.Item{}, r.wrong(api.ErrLong)
	}
	r.pass()
	if r.takes(api.TokSign, "=") {
		return r.attribute(name, met)
	}
	return r.block(name)
}

// attribute reads what stands behind an attribute's name and its sign.
func (r *reader) attribute(name api.Tok, met names) (api.Item, api.Diag) {
	if _, twice := met[name.S]; twice {
		return api.Item{}, api.Diag{Code: api.ErrTwice, Pos: name.Pos}
	}
	met[name.S] = struct{}{}
	e, next, d := expr.Read(r.tokens, int(r.place))
	if d.Code != api.OK {
		return api.Item{}, d
	}
	r.place = place(next)
	return api.Item{Name: name.S, E: e, Pos: name.Pos}, api.Diag{}
}

// block reads what stands behind a block's name.
func (r *reader) block(name api.Tok) (api.Item, api.Diag) {
	labels, d := r.labels()
	if d.Code != api.OK {
		return api.Item{}, d
	}
	if !r.takes(api.TokSign, "{") {
		return api.Item{}, r.wrong(api.ErrForm)
	}
	items, d := r.items(api.TokSign, "}")
	if d.Code != api.OK {
		return api.Item{}, d
	}
	return api.Item{Block: true, Name: name.S, Labels: labels, Items: items, Pos: name.Pos}, api.Diag{}
}

func (r *reader) labels() ([]string, api.Diag) {
	var l []string
	for r.next().Kind == api.TokStr {
		s, ok := bytesOf(r.next().Parts)
		if !ok {
			return nil, r.wrong(api.ErrForm)
		}
		if len(l) == mostLabels {
			return nil, r.wrong(api.ErrLong)
		}
		l = append(l, s)
		r.pass()
	}
	return l, api.Diag{}
}

// bytesOf are the bytes of a string; it isn't ok if there are expressions in it.
func bytesOf(parts []api.Part) (s string, ok bool) {
	var b []byte
	for _, p := range parts {
		if p.Expr {
			return "", false
		}
		b = append(b, p.S...)
	}
	return string(b), true
}
