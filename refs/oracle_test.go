package refs

import (
	"math/rand"
	"slices"
	"sort"
	"strings"
	"testing"

	"surety/api"
	"surety/schema"
)

// hit is a name that asks for something, and where.
type hit struct {
	root, name string
	at         api.Pos
}

// hits are those of a tree, of which free tells which names no for binds.
func hits(e api.Expr, name string, free func(string) bool) []hit {
	var l []hit
	if e.Op == api.ExName && free(e.S) {
		l = append(l, hit{e.S, name, e.Pos})
	}
	within := ""
	if e.Op == api.ExAttr {
		within = e.S
	}
	inner := free
	if e.Op == api.ExForList || e.Op == api.ExForMap {
		inner = func(s string) bool { return s != e.S && (s != e.S2 || s == "") && free(s) }
	}
	for i, x := range e.L {
		if i == 0 {
			l = append(l, hits(x, within, free)...)
		} else {
			l = append(l, hits(x, within, inner)...)
		}
	}
	return l
}

func hitsOf(e api.Expr) []hit { return hits(e, "", func(string) bool { return true }) }

func oracleOf(e api.Expr) []api.Ref {
	var l []api.Ref
	for _, h := range hitsOf(e) {
		l = append(l, api.Ref{Root: h.root, Name: h.name})
	}
	sort.Slice(l, func(i, j int) bool { return l[i].Root < l[j].Root || l[i].Root == l[j].Root && l[i].Name < l[j].Name })
	return slices.Compact(l)
}

// oracle checks places, one by one; once it has told something it tells nothing else.
type oracle struct{ told api.Diag }

// check has what may be asked for, as texts of a root, a full stop and a name; a root that has none such is a text of it and a full stop.
func (o *oracle) check(e api.Expr, may []string) {
	for _, h := range hitsOf(e) {
		full := h.root + "." + h.name
		if o.told.Code != api.OK || h.name != "" && slices.Contains(may, full) {
			continue
		}
		o.told = api.Diag{Code: api.ErrName, Pos: h.at, What: h.root}
		if h.name != "" && slices.ContainsFunc(may, func(s string) bool { root, _, _ := strings.Cut(s, "."); return root == h.root }) {
			o.told.What = full
		}
	}
}

func oracleCheck(c api.Config) api.Diag {
	o := &oracle{}
	all := []string{"var.", "local.", "disk.", "node.", "note.", "rule."}
	for _, x := range c.Inputs {
		all = append(all, "var."+x.Name)
	}
	for _, x := range c.Locals {
		all = append(all, "local."+x.Name)
	}
	for _, x := range c.Resources {
		if slices.Contains(all[2:6], x.Type+".") {
			all = append(all, x.Type+"."+x.Name)
		}
	}
	for _, x := range c.Inputs {
		if x.Has {
			o.check(x.E, nil)
		}
	}
	for _, x := range c.Locals {
		o.check(x.E, all)
	}
	for _, x := range c.Resources {
		o.resource(x, slices.Clone(all))
	}
	for _, x := range c.Outputs {
		o.check(x.E, all)
	}
	for _, x := range c.Checks {
		o.check(x.If, all)
		o.check(x.Say, all)
	}
	return o.told
}

func (o *oracle) resource(x api.Resource, may []string) {
	outside := slices.Clone(may)
	if x.Count != nil {
		o.check(*x.Count, outside)
		may = append(may, "count.index")
	}
	if x.Each != nil {
		o.check(*x.Each, outside)
		may = append(may, "each.key", "each.value")
	}
	for _, f := range x.Fields {
		o.check(f.E, may)
	}
	for _, y := range x.Pre {
		o.check(y.If, may)
		o.check(y.Say, may)
	}
	may = append(may, "self.")
	l, _ := schema.Attrs(x.Type)
	for _, a := range l {
		may = append(may, "self."+a.Name)
	}
	for _, y := range x.Post {
		o.check(y.If, may)
		o.check(y.Say, may)
	}
}

// asks tells which locals each local asks for.
func asks(c api.Config) [][]bool {
	m := make([][]bool, len(c.Locals))
	for i, x := range c.Locals {
		m[i] = make([]bool, len(c.Locals))
		for _, h := range hitsOf(x.E) {
			for j, y := range c.Locals {
				m[i][j] = m[i][j] || h.root == "local" && h.name == y.Name && h.name != ""
			}
		}
	}
	return m
}

// told tells by which locals each local is told.
func told(m [][]bool) [][]bool {
	for k := range m {
		for i := range m {
			for j := range m {
				m[i][j] = m[i][j] || m[i][k] && m[k][j]
			}
		}
	}
	return m
}

func oracleLocals(c api.Config) ([]int, api.Errno) {
	for i, row := range told(asks(c)) {
		if row[i] {
			return nil, api.ErrCycle
		}
	}
	m := asks(c)
	done := make([]bool, len(m))
	var l []int
	for len(l) < len(m) {
		next := slices.IndexFunc(done, func(b bool) bool { return !b })
		for j := next; j < len(m); j++ {
			ready := !done[j]
			for k := range m {
				ready = ready && (!m[j][k] || done[k])
			}
			if ready {
				next = j
				break
			}
		}
		done[next] = true
		l = append(l, next)
	}
	return l, api.OK
}

func oracleHangs(c api.Config, i int) []int {
	r := c.Resources[i]
	var asked []hit
	for _, p := range within(r, sight{}) {
		asked = append(asked, hitsOf(p.e)...)
	}
	direct := len(asked)
	m := told(asks(c))
	for _, h := range asked[:direct] {
		for j, y := range c.Locals {
			if h.root != "local" || h.name != y.Name || h.name == "" {
				continue
			}
			asked = append(asked, hitsOf(y.E)...)
			for k, z := range c.Locals {
				if m[j][k] {
					asked = append(asked, hitsOf(z.E)...)
				}
			}
		}
	}
	var l []int
	for at, x := range c.Resources {
		is := slices.Contains(r.Depends, x.Type+"."+x.Name) || slices.Contains(r.Trigger, x.Type+"."+x.Name)
		for _, h := range asked {
			is = is || h.name != "" && h.root == x.Type && h.name == x.Name && slices.Contains(schema.Types(), x.Type)
		}
		if is {
			l = append(l, at)
		}
	}
	return l
}

// grower grows random trees and configurations.
type grower struct {
	*rand.Rand
	n int
	// odd is of how many names one is any.
	odd int
}

func (g *grower) pick(l ...string) string { return l[g.Intn(len(l))] }

func (g *grower) pos() api.Pos {
	g.n++
	return api.Pos{At: g.n, Line: g.n + 1, Col: g.n + 2}
}

// tree is a tree that asks for some of may.
func (g *grower) tree(depth int, may []string) api.Expr {
	if depth == 0 || g.Intn(4) == 0 {
		return g.leaf(may)
	}
	e := api.Expr{Op: 3 + g.Intn(24), Pos: g.pos()}
	if g.Intn(3) == 0 {
		e.Op = api.ExForList + g.Intn(2)
	}
	if e.Op == api.ExAttr || e.Op == api.ExForList || e.Op == api.ExForMap || g.Intn(10) == 0 {
		e.S, e.S2 = g.pick("a", "x", "k", "disk", "local"), g.pick("", "", "k", "x", "var", "note")
	}
	for range g.Intn(4) {
		e.L = append(e.L, g.tree(depth-1, may))
	}
	return e
}

func (g *grower) leaf(may []string) api.Expr {
	if len(may) == 0 || g.Intn(g.odd) == 0 {
		may = []string{"", "x", "k", "disk", "local", "var", "each", "count", "self", "wall"}
		s := g.pick(may...)
		if g.Intn(2) == 0 || g.odd > 2 {
			return api.Expr{Op: api.ExLit, Pos: g.pos()}
		}
		if g.Intn(3) == 0 {
			return api.Expr{Op: api.ExName, S: s, Pos: g.pos()}
		}
		return api.Expr{Op: api.ExAttr, Pos: g.pos(), S: g.pick("a", "b", "c", "id", "key", "index"), L: []api.Expr{{Op: api.ExName, S: s, Pos: g.pos()}}}
	}
	root, of, _ := strings.Cut(g.pick(may...), ".")
	if g.Intn(4*g.odd) == 0 {
		of = g.pick("a", "b", "c", "d", "")
	}
	return api.Expr{Op: api.ExAttr, Pos: g.pos(), S: of, L: []api.Expr{{Op: api.ExName, S: root, Pos: g.pos()}}}
}

// names are some of few, hardly ever one twice.
func (g *grower) names(n int) []string {
	l := []string{"a", "b", "c", "d", "e", "f"}
	g.Shuffle(len(l), func(i, j int) { l[i], l[j] = l[j], l[i] })
	l = l[:g.Intn(n)]
	if len(l) > 0 && g.Intn(10) == 0 {
		l = append(l, l[0])
	}
	if g.Intn(20) == 0 {
		l = append(l, "")
	}
	return l
}

func (g *grower) config() api.Config {
	var c api.Config
	var may []string
	for _, s := range g.names(4) {
		c.Inputs = append(c.Inputs, api.Input{Name: s, Has: g.Intn(2) == 0})
		may = append(may, "var."+s)
	}
	for _, s := range g.names(7) {
		c.Locals = append(c.Locals, api.Field{Name: s})
		may = append(may, "local."+s)
	}
	for _, s := range g.names(6) {
		of := g.pick("disk", "node", "note", "rule", "disk", "note", "wall", "local")
		if g.odd > 2 && (of == "wall" || of == "local") {
			of = "disk"
		}
		c.Resources = append(c.Resources, api.Resource{Type: of, Name: s})
		may = append(may, of+"."+s)
	}
	for i := range c.Inputs {
		c.Inputs[i].E = g.tree(g.Intn(2), nil)
	}
	for i := range c.Locals {
		// Few ask for those behind them, so that not all have a cycle.
		some := slices.DeleteFunc(slices.Clone(may), func(s string) bool { return strings.HasPrefix(s, "local.") && g.Intn(3) > 0 })
		c.Locals[i].E = g.tree(g.Intn(3), some)
	}
	for i := range c.Resources {
		g.fill(&c.Resources[i], may)
	}
	for _, s := range g.names(3) {
		c.Outputs = append(c.Outputs, api.Field{Name: s, E: g.tree(2, may)})
	}
	c.Checks = g.conds(may)
	return c
}

func (g *grower) conds(may []string) []api.Cond {
	var l []api.Cond
	for range g.Intn(3) {
		l = append(l, api.Cond{If: g.tree(1, may), Say: g.tree(1, may)})
	}
	return l
}

func (g *grower) fill(r *api.Resource, may []string) {
	few := may[:min(len(may), 1+g.Intn(4))]
	may = slices.Clone(may)
	if g.Intn(3) == 0 {
		e := g.tree(1, few)
		r.Count = &e
		may = append(may, "count.index")
	}
	if g.Intn(3) == 0 {
		e := g.tree(1, few)
		r.Each = &e
		may = append(may, "each.key", "each.value")
	}
	for _, s := range g.names(3) {
		r.Fields = append(r.Fields, api.Field{Name: s, E: g.tree(g.Intn(3), few)})
	}
	r.Pre = g.conds(may)
	r.Post = g.conds(append(may, "self.id", "self.text"))
	for range g.Intn(3) {
		r.Depends = append(r.Depends, g.pick("disk", "note", "wall", "local")+"."+g.pick("a", "b", "c", ""))
		r.Trigger = append(r.Trigger, g.pick("disk", "note", "node", "rule")+"."+g.pick("a", "b", "c", "d"))
	}
}

func TestRandom(t *testing.T) {
	right, wrong, cycles, orders, hung := 0, 0, 0, 0, 0
	for seed := range 12000 {
		g := &grower{Rand: rand.New(rand.NewSource(int64(seed))), odd: 2 + seed%3*20}
		e := g.tree(5, []string{"a.b", "x", "x.k", "k", "disk.a", "local.x"})
		if l, want := Of(e), oracleOf(e); !slices.Equal(l, want) {
			t.Fatal(seed, l, want)
		}
		c := g.config()
		d, want := Check(c), oracleCheck(c)
		if d != want {
			t.Fatal(seed, d, want)
		}
		if d.Code == api.OK {
			right++
		} else {
			wrong++
		}
		l, code := Locals(c)
		wantL, wantE := oracleLocals(c)
		if code != wantE || !slices.Equal(l, wantL) {
			t.Fatal(seed, l, wantL, code, wantE)
		}
		if code == api.ErrCycle {
			cycles++
		} else if !slices.IsSorted(l) {
			orders++
		}
		for i := range c.Resources {
			l, want := Hangs(c, i), oracleHangs(c, i)
			if !slices.Equal(l, want) {
				t.Fatal(seed, i, l, want)
			}
			hung += len(l)
		}
	}
	if min(right, wrong, cycles, orders, hung) < 1000 {
		t.Fatal(right, wrong, cycles, orders, hung)
	}
}
