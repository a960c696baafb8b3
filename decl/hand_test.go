package decl

import (
	"slices"
	"strconv"
	"strings"
	"testing"

	"surety/api"
	"surety/conf"
	"surety/expr"
	"surety/value"
)

// attr is an attribute made by hand, at a place.
func attr(name string, at int, e api.Expr) api.Item {
	return api.Item{Name: name, E: e, Pos: api.Pos{At: at}}
}

// block is a block made by hand, at a place; its labels stand behind its name, a blank ahead of each.
func block(name string, at int, l ...api.Item) api.Item {
	words := strings.Fields(name)
	return api.Item{Block: true, Name: words[0], Labels: words[1:], Items: l, Pos: api.Pos{At: at}}
}

var yes = api.Expr{Op: api.ExLit, V: value.Bool(true)}

// tells holds the Diag of items made by hand.
func tells(t *testing.T, l []api.Item, code api.Errno, at int, what string) {
	t.Helper()
	if c, d := Decode(l); d != (api.Diag{Code: code, Pos: api.Pos{At: at}, What: what}) || !isNothing(c) {
		t.Errorf("Decode(%.300s) = %.300s, %v; want %d at %d, %.80s", textOf(l), brief(c), d, code, at, what)
	}
}

// P12.1: an attribute's name that stood already in its block.
func TestTwice(t *testing.T) {
	for _, x := range []struct {
		name string
		of   string
		e    api.Expr
	}{
		{"variable a", "type", text("int")}, {"variable a", "default", yes}, {"output a", "value", yes}, {"check a", "if", yes}, {"check a", "say", yes}, {"locals", "b", yes},
		{"resource note a", "text", yes}, {"resource note a", "count", yes}, {"resource note a", "for_each", yes}, {"resource note a", "depends_on", list()}, {"resource disk a", "size", yes},
	} {
		once, again := attr(x.of, 5, x.e), attr(x.of, 9, api.Expr{})
		tells(t, []api.Item{block(x.name, 1, once, again)}, api.ErrTwice, 9, x.of)
		tells(t, []api.Item{block(x.name, 1, once, again, attr("z", 12, yes))}, api.ErrTwice, 9, x.of)
		stray := api.ErrName
		if x.name == "locals" {
			stray = api.ErrArg
		}
		tells(t, []api.Item{block(x.name, 1, once, attr("Z", 7, yes), again)}, stray, 7, "Z")
	}
	for _, of := range []string{"prevent_destroy", "create_before_destroy", "ignore_changes", "replace_triggered_by"} {
		e := yes
		if strings.Contains(of, "_changes") || strings.Contains(of, "_by") {
			e = list()
		}
		inner := block("lifecycle", 2, attr(of, 5, e), attr(of, 9, yes))
		tells(t, []api.Item{block("resource note a", 1, inner)}, api.ErrTwice, 9, of)
	}
	for _, name := range []string{"precondition", "postcondition"} {
		inner := block(name, 2, attr("if", 5, yes), attr("if", 9, yes))
		tells(t, []api.Item{block("resource note a", 1, inner)}, api.ErrTwice, 9, "if")
	}
	tells(t, []api.Item{attr("a", 3, yes), attr("a", 4, yes)}, api.ErrName, 3, "a")
	tells(t, []api.Item{block("resource note a", 1, attr("x", 3, yes), attr("x", 4, yes))}, api.ErrName, 3, "x")
	tells(t, []api.Item{block("resource note a", 1, attr("text", 3, yes), block("text", 4))}, api.ErrName, 4, "text")
	tells(t, []api.Item{block("resource note a", 1, attr("lifecycle", 3, yes), block("lifecycle", 4))}, api.ErrName, 3, "lifecycle")
}

// P12.1: items of any shape; what their kind doesn't name is no matter.
func TestAnyShape(t *testing.T) {
	tells(t, []api.Item{{}}, api.ErrName, 0, "")
	tells(t, []api.Item{{Block: true}}, api.ErrName, 0, "")
	tells(t, []api.Item{{Block: true, Name: "\xff"}}, api.ErrName, 0, "\xff")
	tells(t, []api.Item{{Name: "variable", Labels: []string{"a"}, Items: []api.Item{{}}}}, api.ErrName, 0, "variable")
	tells(t, []api.Item{{Block: true, Name: "variable", Labels: make([]string, 300)}}, api.ErrArg, 0, "variable")
	tells(t, []api.Item{{Block: true, Name: "resource", Labels: make([]string, 2)}}, api.ErrName, 0, "")
	tells(t, []api.Item{block("resource note a", 1, api.Item{})}, api.ErrName, 0, "")
	tells(t, []api.Item{block("locals", 1, api.Item{})}, api.ErrArg, 0, "")
	tells(t, []api.Item{block("locals", 1, api.Item{Block: true})}, api.ErrName, 0, "")
	long := strings.Repeat("a", 1<<20)
	tells(t, []api.Item{block("variable "+long, 1)}, api.ErrArg, 1, long)
	tells(t, []api.Item{block("resource "+long+" a", 1)}, api.ErrName, 1, long)
	tells(t, []api.Item{block("resource note a", 1, attr("depends_on", 2, list("note."+long)))}, api.ErrName, 2, "note."+long)
	tells(t, []api.Item{block("variable a", 1, attr("type", 2, api.Expr{}))}, api.ErrType, 2, "type")
	tells(t, []api.Item{block("variable a", 1, attr("type", 2, api.Expr{V: value.Str("int")}))}, api.ErrType, 2, "type")
	tells(t, []api.Item{block("variable a", 1, attr("type", 2, api.Expr{Op: api.ExLit, V: api.Value{Kind: 99, S: "int"}}))}, api.ErrType, 2, "type")
	tells(t, []api.Item{block("resource note a", 1, attr("depends_on", 2, api.Expr{Op: api.ExLit, V: value.List(value.Str("note.a"))}))}, api.ErrType, 2, "depends_on")
	for _, empty := range [][]api.Item{nil, {}} {
		if c, d := Decode(empty); d != (api.Diag{}) || !isNothing(c) {
			t.Errorf("Decode of nothing = %s, %v", brief(c), d)
		}
	}
	secret := api.Expr{Op: api.ExLit, V: value.Mark(value.Str("int")), L: []api.Expr{yes}}
	odd := []api.Item{
		{Block: true, Name: "variable", Labels: []string{"a"}, E: yes, Items: []api.Item{{Name: "type", E: secret, Labels: []string{"x"}, Items: []api.Item{{}}}}, Pos: api.Pos{At: -1, Line: -1, Col: -1}},
		{Block: true, Name: "locals", Labels: []string{}, E: yes},
		{Block: true, Name: "check", Labels: []string{"c"}, Items: []api.Item{{Name: "if", E: api.Expr{Op: 99, S: "?", Pos: api.Pos{At: -5}}}}, Pos: api.Pos{At: 1 << 62}},
	}
	c, d := Decode(odd)
	if d != (api.Diag{}) || len(c.Inputs) != 1 || c.Inputs[0].T != (api.Type{Kind: api.Int}) || c.Inputs[0].Pos != odd[0].Pos || len(c.Checks) != 1 || !expr.Same(c.Checks[0].If, odd[2].Items[0].E) || c.Checks[0].If.Pos.At != -5 || c.Checks[0].Say.Pos != odd[2].Pos {
		t.Errorf("Decode = %v, %v", c, d)
	}
}

// R1: what is nested deep, and much of it.
func TestGreat(t *testing.T) {
	deep := api.Expr{}
	for range 1 << 16 {
		deep = api.Expr{Op: api.ExList, L: []api.Expr{deep}}
	}
	c, d := Decode([]api.Item{block("variable a", 1, attr("default", 2, deep)), block("resource note a", 3, attr("count", 4, deep), block("precondition", 5, attr("if", 6, deep)))})
	if d != (api.Diag{}) || !expr.Same(c.Inputs[0].E, deep) || !expr.Same(*c.Resources[0].Count, deep) || !Same(c, c) {
		t.Error(d)
	}
	tells(t, []api.Item{block("variable a", 1, attr("type", 2, deep))}, api.ErrType, 2, "type")
	nested := block("lifecycle", 7)
	for range 1 << 16 {
		nested = block("lifecycle", 7, nested)
	}
	if _, d := Decode([]api.Item{block("resource note a", 3, nested)}); d.Code != api.ErrName || d.What != "lifecycle" {
		t.Error(d)
	}
	const many = 1 << 15
	var l []api.Item
	var fields, conds []api.Item
	var texts []string
	for i := range many {
		name := "a" + strconv.Itoa(i)
		l = append(l, block("variable "+name, i), block("output "+name, i, attr("value", i, yes)), block("check "+name, i, attr("if", i, yes)))
		fields = append(fields, attr(name, i, yes))
		conds = append(conds, block("postcondition", i, attr("if", i, yes)))
		texts = append(texts, "note.a")
	}
	l = append(l, block("locals", 1, fields...), block("resource note a", 2, append(conds, attr("depends_on", 1, list(texts...)))...))
	c, d = Decode(l)
	if d != (api.Diag{}) || len(c.Inputs) != many || len(c.Locals) != many || len(c.Outputs) != many || len(c.Checks) != many || len(c.Resources) != 1 || len(c.Resources[0].Post) != many || len(c.Resources[0].Depends) != many {
		t.Error(d)
	}
	tells(t, append(l, block("variable a7", 9)), api.ErrTwice, 9, "a7")
	tells(t, append(l, block("locals", 9, attr("a7", 10, yes))), api.ErrTwice, 10, "a7")
}

// spoil writes over an expression's memory, and the room behind its lists.
func spoil(e *api.Expr) {
	for i := range e.L {
		spoil(&e.L[i])
	}
	whole := e.L[:cap(e.L)]
	for i := range whole {
		whole[i] = api.Expr{Op: 1, S: "other"}
	}
	for i := range e.V.L {
		e.V.L[i] = value.Str("other")
	}
	for i := range e.V.Keys {
		e.V.Keys[i] = "other"
	}
	e.Op, e.S, e.V = 2, "other", value.Str("other")
}

// exprsOf are all expressions of a configuration.
func exprsOf(c api.Config) []*api.Expr {
	var l []*api.Expr
	ofFields := func(f []api.Field) {
		for i := range f {
			l = append(l, &f[i].E)
		}
	}
	ofConds := func(f []api.Cond) {
		for i := range f {
			l = append(l, &f[i].If, &f[i].Say)
		}
	}
	for i := range c.Inputs {
		l = append(l, &c.Inputs[i].E)
	}
	ofFields(c.Locals)
	for i := range c.Resources {
		r := &c.Resources[i]
		ofFields(r.Fields)
		for _, e := range []*api.Expr{r.Count, r.Each} {
			if e != nil {
				l = append(l, e)
			}
		}
		ofConds(r.Pre)
		ofConds(r.Post)
	}
	ofFields(c.Outputs)
	ofConds(c.Checks)
	return l
}

// listsOf are all lists of texts of a configuration.
func listsOf(c api.Config) [][]string {
	var l [][]string
	for _, r := range c.Resources {
		l = append(l, r.Depends, r.Ignore, r.Trigger)
	}
	return l
}

// spoilList writes over a list of texts, and the room behind it.
func spoilList(l []string) {
	whole := l[:cap(l)]
	for i := range whole {
		whole[i] = "other"
	}
}

func spoilItems(l []api.Item) {
	for i := range l {
		spoilItems(l[i].Items)
		spoil(&l[i].E)
		spoilList(l[i].Labels)
	}
	whole := l[:cap(l)]
	for i := range whole {
		whole[i] = api.Item{Block: true, Name: "other"}
	}
}

// shared are items whose expressions have one memory all together.
func shared() []api.Item {
	m, _ := value.Make([]string{"k"}, []api.Value{value.List(value.Int(1))})
	e := api.Expr{Op: api.ExList, V: m, L: append(make([]api.Expr, 0, 9), text("note.n"), text("note.n"))}
	ignored := list("text", "meta")
	condition := []api.Item{attr("if", 1, e), attr("say", 1, e)}
	return []api.Item{
		block("variable a", 1, attr("default", 1, e)), block("locals", 1, attr("b", 1, e), attr("c", 1, e)), block("output o", 1, attr("value", 1, e)), block("check k", 1, condition...),
		block("resource note n", 1, attr("count", 1, e), attr("text", 1, e), attr("depends_on", 1, e), block("lifecycle", 1, attr("ignore_changes", 1, ignored), attr("replace_triggered_by", 1, e)), block("precondition", 1, condition...), block("postcondition", 1, condition...), block("postcondition", 1, condition...)),
		block("resource note m", 1, attr("for_each", 1, e), attr("meta", 1, e), attr("depends_on", 1, e), block("lifecycle", 1, attr("ignore_changes", 1, ignored))),
	}
}

// R4: what is answered is new memory, no two lists of it share any, and nothing that is handed in is changed.
func TestNewMemory(t *testing.T) {
	decoded := func(l []api.Item) api.Config {
		c, d := Decode(l)
		if d != (api.Diag{}) {
			t.Fatal(d)
		}
		return c
	}
	l := shared()
	c, again := decoded(l), decoded(shared())
	if !conf.Same(l, shared()) {
		t.Error("what was handed in was changed")
	}
	room := l[0].Items[0].E.L
	if slices.ContainsFunc(room[len(room):cap(room)], func(e api.Expr) bool { return !expr.Same(e, api.Expr{}) }) {
		t.Error("the room behind was changed")
	}
	exprs, wants := exprsOf(c), exprsOf(again)
	if len(exprs) != 16 || len(wants) != len(exprs) {
		t.Fatal(len(exprs))
	}
	for i, e := range exprs {
		spoil(e)
		for j := range exprs[i+1:] {
			if !expr.Same(*exprs[i+1+j], *wants[i+1+j]) {
				t.Fatalf("the expression %d hangs on %d", i+1+j, i)
			}
		}
	}
	for i, x := range listsOf(c) {
		spoilList(x)
		for j, y := range listsOf(c)[i+1:] {
			if !slices.Equal(y, listsOf(again)[i+1+j]) {
				t.Fatalf("the list %d hangs on %d", i+1+j, i)
			}
		}
	}
	if !conf.Same(l, shared()) {
		t.Error("what was handed in shares memory with the answer")
	}
	c = decoded(l)
	spoilItems(l)
	if !Same(c, again) {
		t.Error("the answer hangs on what was handed in")
	}
}

// R4, R6: Same and Find change nothing; of one text there is one answer, in new memory each time.
func TestAgain(t *testing.T) {
	s := `variable "a" { default = [1] } resource "note" "n" { meta = {a = [x]} depends_on = ["note.n"] }`
	c, d := reads(t, s), reads(t, s)
	want := brief(d)
	if !Same(c, d) || Find(c, "note", "n") != 0 || brief(c) != want || brief(d) != want {
		t.Error(brief(c), brief(d))
	}
	for _, e := range exprsOf(c) {
		spoil(e)
	}
	for _, l := range listsOf(c) {
		spoilList(l)
	}
	if brief(d) != want || brief(reads(t, s)) != want {
		t.Error("two answers share memory")
	}
}
