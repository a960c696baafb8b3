package decl

import (
	"fmt"
	"math/rand"
	"strconv"
	"testing"

	"surety/api"
	"surety/schema"
	"surety/show"
	"surety/value"
)

// maker makes items, most of them right.
type maker struct {
	*rand.Rand
	// odd is of how many choices one is any.
	odd   int
	at    int
	names int
}

func (m *maker) pick(l ...string) string { return l[m.Intn(len(l))] }

func (m *maker) isOdd() bool { return m.Intn(m.odd) == 0 }

func (m *maker) pos() api.Pos {
	m.at++
	return api.Pos{At: m.at, Line: m.at, Col: m.at}
}

// name is one that was hardly met ahead.
func (m *maker) name() string {
	if m.isOdd() {
		return m.pick("a", "a", "a1", "A", "_a", "", "a.b")
	}
	m.names++
	return "a" + strconv.Itoa(m.names)
}

func text(s string) api.Expr { return api.Expr{Op: api.ExLit, V: value.Str(s)} }

func list(l ...string) api.Expr {
	e := api.Expr{Op: api.ExList}
	for _, s := range l {
		e.L = append(e.L, text(s))
	}
	return e
}

func (m *maker) any() api.Expr {
	return []api.Expr{text("x"), {Op: api.ExName, S: "x"}, {Op: api.ExLit, V: value.Bool(true)}, list("note.a1", "text"), {Op: api.ExList, L: []api.Expr{text("text"), {Op: api.ExLit}}}, {Op: api.ExMap}, {Op: api.ExText, L: []api.Expr{text("int")}}, {}}[m.Intn(8)]
}

func (m *maker) expr(is string) api.Expr {
	if m.isOdd() {
		return m.any()
	}
	ref := func() string {
		return m.pick(schema.Types()...) + "." + m.pick("a1", "a2", "a3", "a4", "a5", "a6", "a7", "a8")
	}
	switch is {
	case "truth":
		return api.Expr{Op: api.ExLit, V: value.Bool(m.Intn(2) == 0)}
	case "type":
		return text(m.pick("int", "list(str)", "any", "map"))
	case "refs":
		var l []string
		for range m.Intn(3) {
			l = append(l, ref())
		}
		return list(l...)
	case "ignored":
		return list([]string{"label", "size", "tags", "text", "to"}[:m.Intn(3)]...)
	}
	return m.any()
}

func (m *maker) attribute(name, is string) api.Item {
	if m.isOdd() {
		name = m.pick("if", "value", "count", "for_each", "size", "id", "text", "lifecycle", "say")
	}
	return api.Item{Name: name, Pos: m.pos(), E: m.expr(is)}
}

func (m *maker) labels(x rule) []string {
	l := []string{}
	for _, s := range x.labels {
		if s == "type" && !m.isOdd() {
			l = append(l, m.pick(schema.Types()...))
		} else {
			l = append(l, m.name())
		}
	}
	if m.isOdd() {
		return append(l, "a")[m.Intn(2):]
	}
	return l
}

func (m *maker) block(in string) api.Item {
	var may []rule
	for _, x := range table {
		if x.in == in || m.isOdd() {
			may = append(may, x)
		}
	}
	x := may[m.Intn(len(may))]
	if in == "." && m.Intn(2) == 0 {
		x = table[2]
	}
	b := api.Item{Block: true, Name: x.name, Labels: m.labels(x), Pos: m.pos()}
	if x.name == "resource" && len(b.Labels) > 0 {
		x.attrs = append(x.attrs, given(b.Labels[0])...)
	}
	for _, i := range m.Perm(len(x.attrs)) {
		a := x.attrs[i]
		if a.name == "*" {
			a.name = m.name()
		}
		if a.name == "for_each" && !m.isOdd() || a.must && m.isOdd() || !a.must && m.Intn(2) == 0 {
			continue
		}
		b.Items = append(b.Items, m.attribute(a.name, a.is))
		if m.isOdd() {
			b.Items = append(b.Items, m.attribute(a.name, a.is))
		}
		if x.name == "resource" && m.Intn(4) == 0 {
			b.Items = append(b.Items, m.block(x.name))
		}
	}
	if m.isOdd() {
		b.Items = append(b.Items, m.block(m.pick(".", "resource")))
	}
	return b
}

func (m *maker) items() []api.Item {
	var l []api.Item
	for range m.Intn(12) * m.Intn(9) {
		l = append(l, m.block("."))
	}
	if m.isOdd() {
		l = append(l, m.attribute("a", "any"))
	}
	return l
}

// P12.1, R2: items of all kinds, right and wrong: the first thing that is wrong, as the chapter's table has it.
func TestAnyItems(t *testing.T) {
	r := rand.New(rand.NewSource(12))
	count := map[api.Errno]int{}
	written := 0
	for i := range 12000 {
		m := maker{Rand: r, odd: []int{8, 60, 300, 2000}[i%4]}
		l := m.items()
		want := wrongIn(l)
		c, d := Decode(l)
		if d != want || d.Code != api.OK && !isNothing(c) {
			t.Fatalf("%s: %v; want %v", textOf(l), d, want)
		}
		count[d.Code]++
		if d.Code == api.OK {
			if want := declaredBy(l); brief(c) != brief(want) || !Same(c, want) || !Same(want, c) {
				t.Fatalf("%s: %s; want %s", textOf(l), brief(c), brief(want))
			}
			if s, e := show.Items(l); e == api.OK {
				if again, d := Read(s); d != (api.Diag{}) || !Same(again, c) {
					t.Fatalf("%s: %s, %v", s, brief(again), d)
				}
				written++
			}
		}
	}
	if written < 200 {
		t.Errorf("only %d texts", written)
	}
	for _, e := range []api.Errno{api.OK, api.ErrArg, api.ErrName, api.ErrTwice, api.ErrLong, api.ErrType, api.ErrNeed} {
		if count[e] < 50 {
			t.Errorf("only %d of error %d", count[e], e)
		}
	}
}

func textOf(l []api.Item) string {
	s, e := show.Items(l)
	if e != api.OK {
		return fmt.Sprint(l)
	}
	return s
}
