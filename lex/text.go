package lex

import (
	"strings"

	"surety/api"
)

// Each byte of written, behind a \, stands for the byte of meant at its place.
const (
	meant   = "\"\\\n\t$"
	written = "\"\\nt$"
)

// parts gathers the Parts of a string: bytes that stand next to each other are one piece.
type parts struct {
	l     []api.Part
	piece []byte
	size  int
}

func (p *parts) putByte(c byte) {
	p.piece = append(p.piece, c)
	p.size++
}

func (p *parts) putExpr(s string, pos api.Pos) {
	p.endPiece()
	p.l = append(p.l, api.Part{Expr: true, S: s, Pos: pos})
	p.size += len(s)
}

func (p *parts) endPiece() {
	if len(p.piece) > 0 {
		p.l = append(p.l, api.Part{S: string(p.piece)})
		p.piece = nil
	}
}

// token is the string that has these Parts, and ends ahead of a place.
func (p *parts) token(end int) (api.Tok, int, api.Errno) {
	if p.size > api.MaxStr {
		return api.Tok{}, 0, api.ErrLong
	}
	p.endPiece()
	return api.Tok{Kind: api.TokStr, Parts: p.l}, end, api.OK
}

// text reads a string. That it is too long is told when its end has been seen, as what is out of form goes ahead of it.
func text(s string, at int, place func(at int) api.Pos) (t api.Tok, end int, e api.Errno) {
	var p parts
	for at, ok := at+1, true; ok && at < len(s) && s[at] != '\n'; {
		if s[at] == '"' {
			return p.token(at + 1)
		}
		at, ok = p.take(s, at, place)
	}
	return api.Tok{}, 0, api.ErrForm
}

// take puts what stands at a place in a string: a byte, or an expression; and tells the place behind it. It isn't ok if that is out of form.
func (p *parts) take(s string, at int, place func(at int) api.Pos) (next int, ok bool) {
	switch {
	case s[at] == '\\':
		i := strings.IndexByte(written, byteAt(s, at+1))
		if i < 0 {
			return 0, false
		}
		p.putByte(meant[i])
		return at + 2, true
	case s[at] == '$' && byteAt(s, at+1) == '{':
		end := behind(s, at+2, inner)
		if byteAt(s, end) != '}' {
			return 0, false
		}
		p.putExpr(s[at+2:end], place(at+2))
		return end + 1, true
	}
	p.putByte(s[at])
	return at + 1, true
}

// byteAt is the byte at a place, or 0 behind the end: nobody asks for a 0.
func byteAt(s string, at int) byte {
	if at < len(s) {
		return s[at]
	}
	return 0
}

// Quote is the text of a string that has the bytes of s alone.
func Quote(s string) string {
	b := []byte{'"'}
	for at := range len(s) {
		if i := strings.IndexByte(meant, s[at]); i >= 0 {
			b = append(b, '\\', written[i])
		} else {
			b = append(b, s[at])
		}
	}
	return string(append(b, '"'))
}
