package decl

import (
	"slices"

	"surety/api"
	"surety/typ"
	"surety/value"
)

// slot is what may stand in a block: an attribute, or a block, of a name, which must stand there, or may more than once. Its take keeps what stands there, or tells what is wrong with it.
type slot struct {
	name              string
	block, must, many bool
	take              func(x api.Item) api.Diag
}

// wrong tells an error of an item.
func wrong(x api.Item, e api.Errno) api.Diag {
	return api.Diag{Code: e, Pos: x.Pos, What: x.Name}
}

// body takes what stands in a block, item by item, into these slots.
func body(b api.Item, slots ...slot) api.Diag {
	taken := make([]int, len(slots))
	for _, x := range b.Items {
		i := slices.IndexFunc(slots, func(s slot) bool { return s.name == x.Name && s.block == x.Block })
		if i < 0 {
			return wrong(x, api.ErrName)
		}
		if taken[i]++; taken[i] > 1 && !slots[i].many {
			return wrong(x, api.ErrTwice)
		}
		if d := slots[i].take(x); d.Code != api.OK {
			return d
		}
	}
	for i, s := range slots {
		if s.must && taken[i] == 0 {
			return api.Diag{Code: api.ErrNeed, Pos: b.Pos, What: s.name}
		}
	}
	return api.Diag{}
}

// blocks is a slot of any number of blocks.
func blocks(name string, take func(b api.Item) api.Diag) slot {
	return slot{name: name, block: true, many: true, take: take}
}

// expression is a slot of an attribute with any expression, which is kept in new memory.
func expression(name string, keep func(e api.Expr)) slot {
	return slot{name: name, take: func(x api.Item) api.Diag {
		keep(copyOf(x.E))
		return api.Diag{}
	}}
}

// needed is s, where something must stand.
func needed(s slot) slot {
	s.must = true
	return s
}

// either is a slot of one of two expressions that don't stand beside each other.
func either(name string, one, other **api.Expr) slot {
	return slot{name: name, take: func(x api.Item) api.Diag {
		if *other != nil {
			return wrong(x, api.ErrTwice)
		}
		e := copyOf(x.E)
		*one = &e
		return api.Diag{}
	}}
}

// truth is a slot of a literal of a truth.
func truth(name string, to *bool) slot {
	return slot{name: name, take: func(x api.Item) api.Diag {
		if !isLiteral(x.E, api.VBool) {
			return wrong(x, api.ErrType)
		}
		*to = x.E.V.I == 1
		return api.Diag{}
	}}
}

// typeText is a slot of a literal of a type's text.
func typeText(name string, to *api.Type) slot {
	return slot{name: name, take: func(x api.Item) api.Diag {
		if !isLiteral(x.E, api.VStr) {
			return wrong(x, api.ErrType)
		}
		t, e := typ.Parse(x.E.V.S)
		if e != api.OK {
			return api.Diag{Code: api.ErrName, Pos: x.Pos, What: x.E.V.S}
		}
		*to = t
		return api.Diag{}
	}}
}

// texts is a slot of a literal of texts, of each of which may holds.
func texts(name string, to *[]string, may func(s string) bool) slot {
	return slot{name: name, take: func(x api.Item) api.Diag {
		isOther := func(e api.Expr) bool { return !isLiteral(e, api.VStr) }
		if x.E.Op != api.ExList || slices.ContainsFunc(x.E.L, isOther) {
			return wrong(x, api.ErrType)
		}
		for _, e := range x.E.L {
			if !may(e.V.S) {
				return api.Diag{Code: api.ErrName, Pos: x.Pos, What: e.V.S}
			}
			*to = append(*to, e.V.S)
		}
		return api.Diag{}
	}}
}

// isLiteral tells whether e is a literal of a kind of values.
func isLiteral(e api.Expr, kind int) bool { return e.Op == api.ExLit && e.V.Kind == kind }

// copyOf is e in new memory.
func copyOf(e api.Expr) api.Expr {
	e.V = value.Copy(e.V)
	e.L = slices.Clone(e.L)
	for i, part := range e.L {
		e.L[i] = copyOf(part)
	}
	return e
}
