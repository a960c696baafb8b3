package eval

import (
	"maps"
	"slices"

	"surety/api"
	"surety/value"
)

// whole is a list of a for, or a map, of whose elements some were come to.
type whole struct {
	l   []api.Value
	met map[string]api.Value
	// open: it isn't known which elements, or keys, there are.
	open bool
	// secret: which there are, hangs on what is marked; within: something in an element is marked.
	secret, within bool
}

// list is what was come to, as a list.
func (x *whole) list() api.Value {
	return x.closed(api.List, api.Value{Kind: api.VList, L: x.l})
}

// dict is what was come to, as a map.
func (x *whole) dict() api.Value {
	v := api.Value{Kind: api.VMap, Keys: slices.Sorted(maps.Keys(x.met))}
	for _, k := range v.Keys {
		v.L = append(v.L, x.met[k])
	}
	return x.closed(api.Map, v)
}

// closed is v, or something unknown of its Kind of types, with the marks that it has to have.
func (x *whole) closed(kind int, v api.Value) api.Value {
	if x.open {
		return marked(unknown(kind), x.secret || x.within)
	}
	return marked(v, x.secret)
}

// pairs is the value of a map's keys and values.
func (w *walk) pairs(e api.Expr) (api.Value, api.Diag) {
	x := whole{met: map[string]api.Value{}}
	for i := 0; i < len(e.L); i += 2 {
		if d := w.pair(&x, e.L[i], e.L[i+1]); d.Code != api.OK {
			return api.Value{}, d
		}
	}
	return x.dict(), api.Diag{}
}

// pair comes to a key, and to what it has.
func (w *walk) pair(x *whole, key, of api.Expr) api.Diag {
	k, d := w.key(x, key)
	if d.Code != api.OK {
		return d
	}
	v, d := w.element(x, of)
	if d.Code != api.OK {
		return d
	}
	if !isUnknown(k) {
		x.met[k.S] = v
	}
	return api.Diag{}
}

// key comes to a key, that may be a text and isn't there yet.
func (w *walk) key(x *whole, e api.Expr) (api.Value, api.Diag) {
	k, d := w.worth(e)
	if d.Code != api.OK {
		return api.Value{}, d
	}
	if !mayBe(k, api.Str) {
		return wrong(e.Pos, api.ErrType, "")
	}
	if _, twice := x.met[k.S]; twice && !isUnknown(k) {
		return wrong(e.Pos, api.ErrTwice, k.S)
	}
	x.open = x.open || isUnknown(k)
	x.secret = x.secret || k.Secret
	return k, api.Diag{}
}

// element comes to an element.
func (w *walk) element(x *whole, e api.Expr) (api.Value, api.Diag) {
	v, d := w.worth(e)
	x.within = x.within || value.Secret(v)
	return v, d
}

// loop is the value of a for.
func (w *walk) loop(e api.Expr) (api.Value, api.Diag) {
	over, d := w.worth(e.L[0])
	if d.Code != api.OK {
		return api.Value{}, d
	}
	x := whole{met: map[string]api.Value{}, open: isUnknown(over), secret: over.Secret}
	if !x.open && over.Kind != api.VList && over.Kind != api.VMap {
		return wrong(e.L[0].Pos, api.ErrType, "")
	}
	outside := len(w.names)
	for i, v := range over.L {
		w.bind(e.S, v, over.Secret)
		if e.S2 != "" {
			w.bind(e.S2, place(over, i), over.Secret)
		}
		if d := w.round(&x, e); d.Code != api.OK {
			return api.Value{}, d
		}
		w.names = w.names[:outside]
	}
	if e.Op == api.ExForList {
		return x.list(), api.Diag{}
	}
	return x.dict(), api.Diag{}
}

// bind has a name stand for v, marked if secret says so.
func (w *walk) bind(name string, v api.Value, secret bool) {
	w.names = append(w.names, api.Bind{Name: name, V: marked(v, secret)})
}

// place is where the element at i stands: its place, or its key.
func place(over api.Value, i int) api.Value {
	if over.Kind == api.VMap {
		return value.Str(over.Keys[i])
	}
	return value.Int(int64(i))
}

// round comes to what a for makes of the element that its names stand for, if that is taken.
func (w *walk) round(x *whole, e api.Expr) api.Diag {
	taken, d := w.taken(x, e)
	if d.Code != api.OK || !taken {
		return d
	}
	if e.Op == api.ExForMap {
		return w.pair(x, e.L[1], e.L[2])
	}
	v, d := w.element(x, e.L[1])
	x.l = append(x.l, v)
	return d
}

// taken comes to a for's condition, if it has one: where that isn't known, the element is taken.
func (w *walk) taken(x *whole, e api.Expr) (bool, api.Diag) {
	at := 2
	if e.Op == api.ExForMap {
		at = 3
	}
	if len(e.L) == at {
		return true, api.Diag{}
	}
	v, d := w.truth(e.L[at], e.L[at].Pos)
	if d.Code != api.OK {
		return false, d
	}
	x.open = x.open || isUnknown(v)
	x.secret = x.secret || v.Secret
	return isUnknown(v) || isTrue(v), api.Diag{}
}
