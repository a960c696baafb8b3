package eval

import (
	"sort"

	"surety/api"
	"surety/fun"
	"surety/num"
	"surety/typ"
	"surety/value"
)

// oracle is a way of its own to what an expression is worth: what it is without marks goes by the chapter's words kind by kind, and the marks by its words on marks, of what was come to. What is wrong is a panic with a Diag.
type oracle struct {
	names []api.Bind
	steps int
}

// came is a part that was come to: its place, and its value.
type came struct {
	i int
	v api.Value
}

// visit is an expression, and what of its parts was come to.
type visit struct {
	o    *oracle
	e    api.Expr
	came []came
	open bool
}

func stop(at api.Expr, code api.Errno, what string) {
	panic(api.Diag{Code: code, Pos: at.Pos, What: what})
}

// ask is the oracle's answer, and how many steps were taken, of which so many were taken ahead.
func ask(e api.Expr, names []api.Bind, taken int) (v api.Value, d api.Diag, steps int) {
	o := &oracle{names: append([]api.Bind{}, names...), steps: taken}
	defer func() {
		steps = o.steps
		if x := recover(); x != nil {
			v, d = api.Value{}, x.(api.Diag)
		}
	}()
	return o.eval(e), api.Diag{}, 0
}

func (o *oracle) eval(e api.Expr) api.Value {
	if o.steps++; o.steps == api.MaxFuel+1 {
		stop(e, api.ErrLong, "fuel")
	}
	x := &visit{o: o, e: e}
	v := x.plain()
	if value.Check(v) != api.OK {
		stop(e, api.ErrLong, "")
	}
	if x.marks() {
		v = value.Mark(v)
	}
	return v
}

// part comes to a part.
func (x *visit) part(i int) api.Value {
	v := x.o.eval(x.e.L[i])
	x.came = append(x.came, came{i, v})
	return v
}

// marks tells whether one of what was come to marks what is answered.
func (x *visit) marks() bool {
	for _, c := range x.came {
		anything, itself := value.Secret(c.v), c.v.Secret
		switch op := x.e.Op; {
		case op == api.ExAttr, op == api.ExIndex && c.i == 0:
			if itself {
				return true
			}
		case op == api.ExIndex, op >= api.ExNot && op <= api.ExOr, op == api.ExText:
			if anything {
				return true
			}
		case op == api.ExCond:
			if c.i == 0 && itself || x.open && anything {
				return true
			}
		case op == api.ExMap:
			if c.i%2 == 0 && itself || x.open && anything {
				return true
			}
		case op == api.ExForList:
			if c.i != 1 && itself || c.i == 1 && x.open && anything {
				return true
			}
		case op == api.ExForMap:
			if c.i != 2 && itself || c.i == 2 && x.open && anything {
				return true
			}
		}
	}
	return false
}

// is tells whether v may be of a kind of values, whose type is of a kind of types.
func is(v api.Value, kind, ty int) bool {
	return v.Kind == kind || v.Kind == api.VUnknown && (v.T == api.Type{} || v.T.Kind == ty)
}

func isBool(v api.Value) bool { return is(v, api.VBool, api.Bool) }
func isInt(v api.Value) bool  { return is(v, api.VInt, api.Int) }
func isStr(v api.Value) bool  { return is(v, api.VStr, api.Str) }
func isOpen(v api.Value) bool { return v.Kind == api.VUnknown }

func of(kind int) api.Value { return api.Value{Kind: api.VUnknown, T: api.Type{Kind: kind}} }

// plain is what x's expression is worth, but for the marks that it has for its parts.
func (x *visit) plain() api.Value {
	e := x.e
	switch {
	case e.Op == api.ExLit:
		return e.V
	case e.Op == api.ExName:
		for i := len(x.o.names) - 1; i >= 0; i-- {
			if x.o.names[i].Name == e.S {
				return value.Copy(x.o.names[i].V)
			}
		}
		stop(e, api.ErrName, e.S)
	case e.Op == api.ExAttr:
		v := x.part(0)
		if isOpen(v) {
			return of(api.Any)
		}
		return x.got(value.Get(v, e.S))(e.S)
	case e.Op == api.ExIndex:
		v, at := x.part(0), x.part(1)
		switch {
		case isOpen(v) || isOpen(at):
			return of(api.Any)
		case v.Kind == api.VMap && at.Kind == api.VStr:
			return x.got(value.Get(v, at.S))("")
		case v.Kind == api.VList && at.Kind == api.VInt:
			return x.got(value.At(v, at.I))("")
		}
		stop(e, api.ErrType, "")
	case e.Op == api.ExCall:
		v, code := fun.Call(e.S, x.parts())
		if code != api.OK {
			stop(e, code, e.S)
		}
		return v
	case e.Op == api.ExList:
		return value.List(x.parts()...)
	case e.Op == api.ExMap:
		d := dict{}
		for i := 0; i < len(e.L); i += 2 {
			x.pair(d, i, i+1)
		}
		return x.map_(d)
	case e.Op == api.ExForList || e.Op == api.ExForMap:
		return x.loop()
	case e.Op == api.ExText:
		return x.string()
	case e.Op == api.ExCond:
		return x.cond()
	case e.Op == api.ExAnd:
		return x.both(0)
	case e.Op == api.ExOr:
		return x.both(1)
	}
	return x.sign()
}

// got is an element, or stops with What for ErrNone.
func (x *visit) got(v api.Value, code api.Errno) func(what string) api.Value {
	return func(what string) api.Value {
		if code == api.ErrNone {
			stop(x.e, code, what)
		}
		if code != api.OK {
			stop(x.e, code, "")
		}
		return v
	}
}

func (x *visit) parts() []api.Value {
	var l []api.Value
	for i := range x.e.L {
		l = append(l, x.part(i))
	}
	return l
}

type dict map[string]api.Value

func (x *visit) pair(d dict, key, of int) {
	k := x.part(key)
	if !isStr(k) {
		stop(x.e.L[key], api.ErrType, "")
	}
	if _, ok := d[k.S]; ok && !isOpen(k) {
		stop(x.e.L[key], api.ErrTwice, k.S)
	}
	v := x.part(of)
	if isOpen(k) {
		x.open = true
		return
	}
	d[k.S] = v
}

func (x *visit) map_(d dict) api.Value {
	if x.open {
		return of(api.Map)
	}
	v := api.Value{Kind: api.VMap}
	for k := range d {
		v.Keys = append(v.Keys, k)
	}
	sort.Strings(v.Keys)
	for _, k := range v.Keys {
		v.L = append(v.L, d[k])
	}
	return v
}

func (x *visit) loop() api.Value {
	e, n := x.e, 2
	if e.Op == api.ExForMap {
		n = 3
	}
	over := x.part(0)
	if over.Kind == api.VUnknown {
		return of(api.List + n - 2)
	}
	if over.Kind != api.VList && over.Kind != api.VMap {
		stop(e.L[0], api.ErrType, "")
	}
	outer := x.o.names
	d, l := dict{}, []api.Value{}
	for i, v := range over.L {
		at := value.Int(int64(i))
		if over.Kind == api.VMap {
			at = value.Str(over.Keys[i])
		}
		if over.Secret {
			v, at = value.Mark(v), value.Mark(at)
		}
		x.o.names = append(append([]api.Bind{}, outer...), api.Bind{Name: e.S, V: v})
		if e.S2 != "" {
			x.o.names = append(x.o.names, api.Bind{Name: e.S2, V: at})
		}
		if len(e.L) > n {
			c := x.part(n)
			if !isBool(c) {
				stop(e.L[n], api.ErrType, "")
			}
			if c.Kind == api.VBool && c.I == 0 {
				continue
			}
			x.open = x.open || isOpen(c)
		}
		if n == 2 {
			l = append(l, x.part(1))
		} else {
			x.pair(d, 1, 2)
		}
	}
	x.o.names = outer
	if n == 3 {
		return x.map_(d)
	}
	if x.open {
		return of(api.List)
	}
	return value.List(l...)
}

func (x *visit) string() api.Value {
	s, open := "", false
	for i, part := range x.e.L {
		v := x.part(i)
		switch {
		case v.Kind == api.VStr:
			s += v.S
		case v.Kind == api.VInt:
			s += num.Print(v.I)
		case v.Kind == api.VBool:
			s += [...]string{"false", "true"}[v.I]
		case isBool(v) || isInt(v) || isStr(v):
			open = true
		default:
			stop(part, api.ErrType, "")
		}
	}
	if open {
		return of(api.Str)
	}
	if len(s) > api.MaxStr {
		stop(x.e, api.ErrLong, "")
	}
	return value.Str(s)
}

func (x *visit) cond() api.Value {
	c := x.part(0)
	switch {
	case !isBool(c):
		stop(x.e, api.ErrType, "")
	case c.Kind == api.VBool:
		return x.part(2 - int(c.I))
	}
	x.open = true
	a, b := x.part(1), x.part(2)
	if value.Known(a) && value.Known(b) && value.Like(a, b) {
		return a
	}
	return value.Unknown(typ.Join(value.TypeOf(a), value.TypeOf(b)))
}

// both is an and, where 0 decides, or an or, where 1 does.
func (x *visit) both(decides int64) api.Value {
	a := x.part(0)
	if !isBool(a) {
		stop(x.e, api.ErrType, "")
	}
	if a.Kind == api.VBool && a.I == decides {
		return a
	}
	b := x.part(1)
	if !isBool(b) {
		stop(x.e, api.ErrType, "")
	}
	if isOpen(b) || isOpen(a) && b.I != decides {
		return of(api.Bool)
	}
	return value.Bool(b.I == 1)
}

func (x *visit) sign() api.Value {
	l := x.parts()
	a, b := l[0], l[len(l)-1]
	open := isOpen(a) || isOpen(b)
	truth := func(ok bool) api.Value { return value.Bool(ok) }
	switch x.e.Op {
	case api.ExEq, api.ExNe:
		if !value.Known(a) || !value.Known(b) {
			return of(api.Bool)
		}
		return truth(value.Like(a, b) == (x.e.Op == api.ExEq))
	case api.ExNot:
		if !isBool(a) {
			stop(x.e, api.ErrType, "")
		}
		if open {
			return of(api.Bool)
		}
		return truth(a.I == 0)
	case api.ExLt, api.ExLe, api.ExGt, api.ExGe:
		if !(isInt(a) && isInt(b) || isStr(a) && isStr(b)) {
			stop(x.e, api.ErrType, "")
		}
		if open {
			return of(api.Bool)
		}
		less, same := a.I < b.I || a.S < b.S, a.I == b.I && a.S == b.S
		return truth(map[int]bool{api.ExLt: less, api.ExLe: less || same, api.ExGt: !less && !same, api.ExGe: !less}[x.e.Op])
	}
	if !isInt(a) || !isInt(b) {
		stop(x.e, api.ErrType, "")
	}
	if open {
		return of(api.Int)
	}
	if x.e.Op == api.ExNeg {
		b, a = a, value.Int(0)
	}
	n, code := map[int]func(a, b int64) (int64, api.Errno){api.ExNeg: num.Sub, api.ExMul: num.Mul, api.ExDiv: num.Div, api.ExMod: num.Mod, api.ExAdd: num.Add, api.ExSub: num.Sub}[x.e.Op](a.I, b.I)
	if code != api.OK {
		stop(x.e, code, "")
	}
	return value.Int(n)
}
