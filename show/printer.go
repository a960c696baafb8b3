package show

import (
	"surety/api"
	"surety/lex"
	"surety/num"
)

// printer prints trees that may be printed.
type printer struct{ out }

// part prints e in a place of a level: in brackets, if e is looser.
func (p *printer) part(e api.Expr, level int) {
	if levelOf(e.Op) >= level {
		p.tree(e)
		return
	}
	p.put("(")
	p.tree(e)
	p.put(")")
}

func (p *printer) tree(e api.Expr) {
	switch e.Op {
	case api.ExLit:
		p.literal(e.V)
	case api.ExName:
		p.put(e.S)
	case api.ExText:
		p.pieces(e.L)
	case api.ExCall, api.ExList, api.ExMap, api.ExForList, api.ExForMap:
		p.enclosed(e)
	default:
		p.joined(e)
	}
}

func (p *printer) literal(v api.Value) {
	switch v.Kind {
	case api.VNull:
		p.put("null")
	case api.VBool:
		p.put([...]string{"false", "true"}[v.I])
	case api.VInt:
		p.put(num.Print(v.I))
	case api.VStr:
		p.put(lex.Quote(v.S))
	}
}

// pieces prints a string with expressions. How long it is goes by its bytes, not by what is written for them.
func (p *printer) pieces(l []api.Expr) {
	size := 0
	p.put("\"")
	for _, e := range l {
		if isText(e) {
			size += len(e.V.S)
			quoted := lex.Quote(e.V.S)
			p.put(quoted[1 : len(quoted)-1])
			continue
		}
		p.put("${")
		from := len(p.b)
		p.tree(e)
		size += len(p.b) - from
		p.put("}")
	}
	p.put("\"")
	if size > api.MaxStr {
		p.long = true
	}
}

// enclosed prints what stands between signs that belong together.
func (p *printer) enclosed(e api.Expr) {
	switch e.Op {
	case api.ExCall:
		p.put(e.S + "(")
		p.row(e.L)
		p.put(")")
	case api.ExList:
		p.put("[")
		p.row(e.L)
		p.put("]")
	case api.ExMap:
		p.put("{")
		p.pairs(e.L)
		p.put("}")
	case api.ExForList:
		p.put("[")
		p.loop(e, " : ", " if ")
		p.put("]")
	case api.ExForMap:
		p.put("{")
		p.loop(e, " : ", " => ", " if ")
		p.put("}")
	}
}

func (p *printer) row(l []api.Expr) {
	for i, e := range l {
		if i > 0 {
			p.put(", ")
		}
		p.tree(e)
	}
}

func (p *printer) pairs(l []api.Expr) {
	for i := 0; i < len(l); i += 2 {
		if i > 0 {
			p.put(", ")
		}
		p.key(l[i])
		p.put(" = ")
		p.tree(l[i+1])
	}
}

func (p *printer) key(e api.Expr) {
	if isText(e) && isName(e.V.S) {
		p.put(e.V.S)
		return
	}
	p.tree(e)
}

// loop prints a for, with these signs between its parts, as far as it has some.
func (p *printer) loop(e api.Expr, between ...string) {
	p.put("for ")
	if e.S2 != "" {
		p.put(e.S2 + ", ")
	}
	p.put(e.S + " in ")
	for i, x := range e.L {
		if i > 0 {
			p.put(between[i-1])
		}
		p.tree(x)
	}
}

// joined prints operands, and the signs by which they are joined.
func (p *printer) joined(e api.Expr) {
	switch e.Op {
	case api.ExAttr:
		p.part(e.L[0], closeLevel)
		p.put("." + e.S)
	case api.ExIndex:
		p.part(e.L[0], closeLevel)
		p.put("[")
		p.tree(e.L[1])
		p.put("]")
	case api.ExNot, api.ExNeg:
		p.put(signs[e.Op].text)
		p.part(e.L[0], signs[e.Op].right)
	case api.ExCond:
		p.part(e.L[0], orLevel)
		p.put(" ? ")
		p.tree(e.L[1])
		p.put(" : ")
		p.tree(e.L[2])
	default:
		p.part(e.L[0], signs[e.Op].left)
		p.put(signs[e.Op].text)
		p.part(e.L[1], signs[e.Op].right)
	}
}
