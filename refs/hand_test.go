package refs

import (
	"reflect"
	"slices"
	"strconv"
	"testing"

	"surety/api"
	"surety/decl"
)

func name(s string) api.Expr { return api.Expr{Op: api.ExName, S: s} }

func attr(e api.Expr, s string) api.Expr {
	return api.Expr{Op: api.ExAttr, S: s, L: []api.Expr{e}}
}

func parts(op int, l ...api.Expr) api.Expr { return api.Expr{Op: op, L: l} }

// TestOfAny has trees that no text has.
func TestOfAny(t *testing.T) {
	loop := func(op int, s, s2 string, l ...api.Expr) api.Expr {
		return api.Expr{Op: op, S: s, S2: s2, L: l}
	}
	withParts := name("b")
	withParts.L = []api.Expr{name("a")}
	for i, x := range []struct {
		e    api.Expr
		want []api.Ref
	}{
		{api.Expr{}, nil},
		{api.Expr{Op: -1, S: "a"}, nil},
		{api.Expr{Op: 1 << 62, S: "a"}, nil},
		{name(""), []api.Ref{{}}},
		{name("\xff\x00"), []api.Ref{{Root: "\xff\x00"}}},
		{attr(name("a"), ""), []api.Ref{{Root: "a"}}},
		{attr(name(""), "a"), []api.Ref{{Name: "a"}}},
		{api.Expr{Op: api.ExAttr, S: "a"}, nil},
		{parts(-7, name("a"), attr(name("a"), "b")), []api.Ref{{Root: "a"}, {Root: "a", Name: "b"}}},
		{parts(api.ExLit, name("a")), []api.Ref{{Root: "a"}}},
		{withParts, []api.Ref{{Root: "a"}, {Root: "b"}}},
		{attr(withParts, "x"), []api.Ref{{Root: "a"}, {Root: "b", Name: "x"}}},
		{parts(api.ExNot, name("a"), name("b")), []api.Ref{{Root: "a"}, {Root: "b"}}},
		{parts(api.ExMap, name("a")), []api.Ref{{Root: "a"}}},
		// S and S2 bind nothing but in a for.
		{loop(api.ExIndex, "b", "b", name("a"), name("b")), []api.Ref{{Root: "a"}, {Root: "b"}}},
		{loop(api.ExText, "b", "b", name("a"), name("b")), []api.Ref{{Root: "a"}, {Root: "b"}}},
		{loop(api.ExForList, "a", "b"), nil},
		{loop(api.ExForMap, "a", "b", name("a")), []api.Ref{{Root: "a"}}},
		{loop(api.ExForList, "a", "b", name("a"), name("b"), name("c"), name("a"), attr(name("d"), "a"), name("b")), []api.Ref{{Root: "a"}, {Root: "c"}, {Root: "d", Name: "a"}}},
		{loop(api.ExForList, "a", "", name("x"), name(""), name("a")), []api.Ref{{}, {Root: "x"}}},
		{loop(api.ExForList, "", "", name("x"), name(""), name("a")), []api.Ref{{Root: "a"}, {Root: "x"}}},
		{loop(api.ExForMap, "a", "a", name("x"), loop(api.ExForList, "a", "a", name("a"), name("a")), name("a")), []api.Ref{{Root: "x"}}},
		{parts(0, loop(api.ExForList, "a", "b", name("x")), name("a"), name("b")), []api.Ref{{Root: "a"}, {Root: "b"}, {Root: "x"}}},
		{parts(0, name("b"), name("a\x00"), name("a"), attr(name("a"), "\xff"), attr(name("a"), "~"), name("B"), name("\x80")), []api.Ref{{Root: "B"}, {Root: "a"}, {Root: "a", Name: "~"}, {Root: "a", Name: "\xff"}, {Root: "a\x00"}, {Root: "b"}, {Root: "\x80"}}},
	} {
		if l := Of(x.e); !slices.Equal(l, x.want) {
			t.Errorf("%d: %v, want %v", i, l, x.want)
		}
	}
}

// TestCheckAny has configurations that no text declares.
func TestCheckAny(t *testing.T) {
	at := api.Pos{At: -7, Line: 1 << 40, Col: -1 << 63}
	here := func(root, of string) api.Expr {
		e := attr(api.Expr{Op: api.ExName, S: root, Pos: at}, of)
		e.Pos = api.Pos{At: 1}
		return e
	}
	post := func(of string, e api.Expr) api.Config {
		return api.Config{Resources: []api.Resource{{Type: of, Name: "a", Post: []api.Cond{{If: e}}}}}
	}
	x, loop := name("x"), here("each", "key")
	turn := here("count", "index")
	for i, y := range []struct {
		c    api.Config
		what string
		ok   bool
	}{
		{ok: true},
		{c: api.Config{Inputs: []api.Input{{E: x}}}, ok: true},
		{c: api.Config{Inputs: []api.Input{{E: here("a", "b")}, {Has: true, E: here("var", "b")}}}, what: "var"},
		{c: api.Config{Inputs: []api.Input{{Name: ""}}, Locals: []api.Field{{E: here("var", "")}}}, what: "var"},
		{c: api.Config{Inputs: []api.Input{{Name: "\xff"}}, Locals: []api.Field{{E: here("var", "\xff")}}}, ok: true},
		{c: api.Config{Locals: []api.Field{{Name: "", E: here("local", "")}}}, what: "local"},
		{c: api.Config{Locals: []api.Field{{Name: "a", E: here("local", "a")}, {Name: "a", E: here("local", "b")}}}, what: "local.b"},
		{c: api.Config{Outputs: []api.Field{{E: here("", "a")}}}, what: ""},
		{c: api.Config{Outputs: []api.Field{{E: here("\xff", "a")}}}, what: "\xff"},
		{c: api.Config{Resources: []api.Resource{{Type: "disk"}}, Outputs: []api.Field{{E: here("disk", "")}}}, what: "disk"},
		{c: api.Config{Resources: []api.Resource{{Type: "wall", Name: "a"}}, Outputs: []api.Field{{E: here("wall", "a")}}}, what: "wall"},
		{c: api.Config{Resources: []api.Resource{{Type: "var", Name: "a"}, {Type: "local", Name: "a"}}, Outputs: []api.Field{{E: here("var", "a")}}}, what: "var.a"},
		{c: api.Config{Resources: []api.Resource{{Type: "var", Name: "a"}, {Type: "local", Name: "a"}}, Outputs: []api.Field{{E: here("local", "a")}}}, what: "local.a"},
		{c: api.Config{Resources: []api.Resource{{Type: "disk", Name: "a.b"}, {Type: "disk", Name: "a.b"}}, Outputs: []api.Field{{E: here("disk", "a.b")}}}, ok: true},
		{c: api.Config{Resources: []api.Resource{{Type: "disk", Name: "a"}}, Outputs: []api.Field{{E: parts(-1, parts(99, here("disk", "b")))}}}, what: "disk.b"},
		{c: post("wall", here("self", "id")), what: "self.id"},
		{c: post("", here("self", "")), what: "self"},
		{c: post("", here("self", "id")), what: "self.id"},
		{c: post("rule", here("self", "")), what: "self"},
		{c: post("rule", here("self", "allow")), ok: true},
		// Both count and for_each: each is one that there is.
		{c: api.Config{Resources: []api.Resource{{Count: &x, Each: &loop}}}, what: "x"},
		{c: api.Config{Resources: []api.Resource{{Count: &api.Expr{}, Each: &loop}}}, what: "each"},
		{c: api.Config{Resources: []api.Resource{{Count: &turn, Each: &x}}}, what: "count"},
		{c: api.Config{Resources: []api.Resource{{Count: &api.Expr{}, Each: &api.Expr{}, Fields: []api.Field{{E: loop}, {E: turn}}, Pre: []api.Cond{{If: loop, Say: turn}}, Post: []api.Cond{{If: loop, Say: turn}, {If: here("count", "key")}}}}}, what: "count.key"},
		{c: api.Config{Resources: []api.Resource{{Count: &api.Expr{}, Each: &api.Expr{}}, {Fields: []api.Field{{E: turn}}}}}, what: "count"},
		{c: api.Config{Resources: []api.Resource{{Type: "disk", Post: []api.Cond{{}}}, {Type: "disk", Pre: []api.Cond{{Say: here("self", "id")}}}}}, what: "self"},
		{c: api.Config{Checks: []api.Cond{{Name: "a"}, {Say: here("self", "id")}}}, what: "self"},
		// What a resource depends on is asked of its text alone.
		{c: api.Config{Resources: []api.Resource{{Depends: []string{"disk.z", ""}, Trigger: []string{"z"}, Ignore: []string{"z"}}}}, ok: true},
	} {
		want := api.Diag{Code: api.ErrName, Pos: at, What: y.what}
		if y.what == "x" {
			want.Pos = api.Pos{}
		}
		if y.ok {
			want = api.Diag{}
		}
		if d := Check(y.c); d != want {
			t.Errorf("%d: %v, want %v", i, d, want)
		}
	}
}

func fields(l ...any) []api.Field {
	var f []api.Field
	for i := 0; i < len(l); i += 2 {
		f = append(f, api.Field{Name: l[i].(string), E: l[i+1].(api.Expr)})
	}
	return f
}

// TestLocalsAny has locals of which several have one name, or none: who asks for a name asks for all that have it.
func TestLocalsAny(t *testing.T) {
	one, ask := api.Expr{}, func(s string) api.Expr { return attr(name("local"), s) }
	for i, x := range []struct {
		l    []api.Field
		want []int
		e    api.Errno
	}{
		{fields("a", one, "a", one), []int{0, 1}, api.OK},
		{fields("b", ask("a"), "a", one, "a", one), []int{1, 2, 0}, api.OK},
		{fields("b", ask("a"), "a", one, "c", one, "a", ask("d"), "d", one), []int{1, 2, 4, 3, 0}, api.OK},
		{fields("a", one, "a", ask("a")), nil, api.ErrCycle},
		{fields("a", one, "b", ask("a"), "a", ask("b")), nil, api.ErrCycle},
		{fields("", one, "", ask("")), []int{0, 1}, api.OK},
		{fields("", name("local"), "a", one), []int{0, 1}, api.OK},
		{fields("b", ask("\xff"), "\xff", one), []int{1, 0}, api.OK},
		{fields("b", parts(-3, ask("a")), "a", parts(1000, parts(api.ExLit, ask("c"))), "c", one), []int{2, 1, 0}, api.OK},
	} {
		l, e := Locals(api.Config{Locals: x.l})
		if e != x.e || !slices.Equal(l, x.want) {
			t.Errorf("%d: %v %d", i, l, e)
		}
	}
}

// TestHangsAny has resources of which several have one name, or a type that is none.
func TestHangsAny(t *testing.T) {
	l := []api.Resource{
		{Type: "disk", Name: "a"},
		{Type: "disk", Name: "a"},
		{Type: "disk", Name: ""},
		{Type: "wall", Name: "a"},
		{Type: "local", Name: "x"},
		{Type: "var", Name: "v"},
		{Type: "disk", Name: "b"},
	}
	for i, x := range []struct {
		r    api.Resource
		want []int
	}{
		{api.Resource{Fields: fields("f", attr(name("disk"), "a"))}, []int{0, 1}},
		{api.Resource{Depends: []string{"disk.a"}}, []int{0, 1}},
		{api.Resource{Trigger: []string{"disk.a"}}, []int{0, 1}},
		{api.Resource{Fields: fields("f", name("disk"), "g", attr(name("disk"), ""))}, nil},
		{api.Resource{Depends: []string{"disk", "a", "", ".", "disk.a.id", " disk.a", "disk.A"}, Trigger: []string{"disk.c", "Disk.a"}}, nil},
		// What isn't declared is asked for by nobody.
		{api.Resource{Fields: fields("f", attr(name("wall"), "a"), "g", attr(name("local"), "x"), "h", attr(name("var"), "v"))}, []int{6}},
		{api.Resource{Ignore: []string{"disk.a"}}, nil},
		{api.Resource{Depends: []string{"local.y"}, Trigger: []string{"local.y"}}, nil},
		{api.Resource{Fields: fields("f", attr(name("local"), "y"))}, []int{0, 1, 6}},
		{api.Resource{Count: &api.Expr{Op: 77, L: []api.Expr{attr(name("disk"), "b")}}, Each: &api.Expr{L: []api.Expr{attr(name("disk"), "a")}}}, []int{0, 1, 6}},
	} {
		c := api.Config{
			Inputs:    []api.Input{{Name: "v", Has: true, E: attr(name("disk"), "a")}},
			Locals:    fields("x", attr(name("disk"), "b"), "y", attr(name("disk"), "a"), "y", attr(name("local"), "x"), "x", attr(name("local"), "y.z")),
			Resources: append([]api.Resource{x.r}, l...),
			Outputs:   fields("o", attr(name("disk"), "a")),
		}
		want := slices.Clone(x.want)
		for j := range want {
			want[j]++
		}
		c.Resources[0].Name = "me"
		if l := Hangs(c, 0); !slices.Equal(l, want) {
			t.Errorf("%d: %v, want %v", i, l, want)
		}
	}
}

// TestGreat: as deep, as long and as wide as may be, within reason, neither stands too deep nor takes too long.
func TestGreat(t *testing.T) {
	deep := attr(name("local"), "b")
	for i := range 1<<16 - 3 {
		op := []int{api.ExForList, api.ExNot, api.ExAttr}[i%3]
		deep = api.Expr{Op: op, S: "v" + strconv.Itoa(i%5), L: []api.Expr{{}, deep}}
	}
	if l := Of(deep); !slices.Equal(l, []api.Ref{{Root: "local", Name: "b"}}) {
		t.Fatal(l)
	}
	var c api.Config
	const n = 100000
	for i := range n {
		c.Locals = append(c.Locals, api.Field{Name: strconv.Itoa(i), E: attr(name("local"), strconv.Itoa(i+1))})
	}
	c.Locals = append(c.Locals, api.Field{Name: strconv.Itoa(n), E: attr(name("disk"), "d")})
	c.Resources = []api.Resource{{Type: "disk", Name: "d", Fields: fields("f", attr(name("local"), "0"))}}
	l, e := Locals(c)
	if e != api.OK || len(l) != n+1 || l[0] != n || l[n] != 0 {
		t.Fatal(len(l), e)
	}
	if d := Check(c); d != (api.Diag{}) {
		t.Fatal(d)
	}
	if l := Hangs(c, 0); !slices.Equal(l, []int{0}) {
		t.Fatal(l)
	}
	// Each of many asks for all that have one name, which are as many.
	same := api.Config{}
	for i := range n {
		same.Locals = append(same.Locals, fields("a"+strconv.Itoa(i), attr(name("local"), "b"), "b", api.Expr{})...)
	}
	if l, e := Locals(same); e != api.OK || len(l) != 2*n || l[0] != 1 || l[n-1] != 2*n-1 || l[n] != 0 {
		t.Fatal(len(l), e)
	}
	wide := parts(api.ExList)
	for i := range 2 * n {
		wide.L = append(wide.L, attr(name("b"), strconv.Itoa(i%n)))
	}
	if l := Of(wide); len(l) != n || !slices.IsSortedFunc(l, order) {
		t.Fatal(len(l))
	}
}

const several = `
variable "v" { default = [1, 2] }
locals {
	a = [local.b, var.v, [for k, v in var.v : k]]
	b = disk.d.id
}
resource "disk" "d" {
	size = 1
	count = local.c
	postcondition { if = self.id == note.n.id }
}
resource "note" "n" {
	for_each = { a = disk.d.size }
	text = "${each.key}${local.a}"
	depends_on = ["disk.d", "note.n"]
	lifecycle { replace_triggered_by = ["disk.d"] }
	precondition {
		if = each.value > 1
		say = local.a
	}
}
locals { c = 1 }
output "o" { value = local.a }
check "c" {
	if = note.n.text
	say = var.v
}
`

// TestKept: nothing that is handed in is changed, and what is answered is new each time, and the same.
func TestKept(t *testing.T) {
	c, d := decl.Read(several)
	again, _ := decl.Read(several)
	if d.Code != api.OK {
		t.Fatal(d)
	}
	// The room behind the lists' lengths is neither read nor written.
	c.Locals = append(c.Locals, api.Field{Name: "d", E: attr(name("x"), "y")})[:len(c.Locals)]
	c.Resources = append(c.Resources, api.Resource{Type: "disk", Name: "d", Fields: fields("f", name("x"))})[:len(c.Resources)]
	e := c.Locals[0].E
	e.L = append(e.L, name("beyond"))[:len(e.L)]
	for range 3 {
		refs, d := Of(e), Check(c)
		order, code := Locals(c)
		first, second := Hangs(c, 0), Hangs(c, 1)
		if brief(refs) != "local.b var.v" || d != (api.Diag{}) || code != api.OK || !slices.Equal(order, []int{1, 0, 2}) || !slices.Equal(first, []int{1}) || !slices.Equal(second, []int{0, 1}) {
			t.Fatal(refs, d, order, code, first, second)
		}
		if !reflect.DeepEqual(c, again) {
			t.Fatal(c)
		}
		if x := c.Locals[:3+1][3]; x.Name != "d" || x.E.S != "y" {
			t.Fatal(x)
		}
		if x := e.L[:len(e.L)+1][len(e.L)]; x.S != "beyond" {
			t.Fatal(x)
		}
		for _, l := range [][]int{order, first, second} {
			for i := range l[:cap(l)] {
				l[:cap(l)][i] = -1
			}
		}
		for i := range refs[:cap(refs)] {
			refs[:cap(refs)][i] = api.Ref{Root: "z"}
		}
	}
}
