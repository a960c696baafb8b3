package decl

import (
	"fmt"
	"slices"
	"strings"

	"surety/addr"
	"surety/api"
	"surety/conf"
	"surety/schema"
	"surety/typ"
)

// chapter is the chapter's table: a block, where it stands, what its labels are, its attributes and what they are to be (those that must be there with a !).
const chapter = `
variable . name; type=type default=any
locals .; *=any
resource . type name; count=any for_each=any depends_on=refs
lifecycle resource; prevent_destroy=truth create_before_destroy=truth ignore_changes=ignored replace_triggered_by=refs
precondition resource; !if=any say=any
postcondition resource; !if=any say=any
output . name; !value=any
check . name; !if=any say=any`

// rule is a row of the chapter's table.
type rule struct {
	name, in string
	labels   []string
	attrs    []rule
	is       string
	must     bool
}

// table has the chapter's rows.
var table = rules()

func rules() []rule {
	var l []rule
	for row := range strings.SplitSeq(strings.TrimSpace(chapter), "\n") {
		head, tail, _ := strings.Cut(row, ";")
		words := strings.Fields(head)
		x := rule{name: words[0], in: words[1], labels: words[2:]}
		for _, a := range strings.Fields(tail) {
			name, is, _ := strings.Cut(a, "=")
			x.attrs = append(x.attrs, rule{name: strings.TrimPrefix(name, "!"), is: is, must: name[0] == '!'})
		}
		x.attrs = slices.Clip(x.attrs)
		l = append(l, x)
	}
	return l
}

// given are a type's attributes that a resource may have.
func given(of string) []rule {
	var l []rule
	attrs, _ := schema.Attrs(of)
	for _, a := range attrs {
		if !a.Computed {
			l = append(l, rule{name: a.Name, is: "any", must: a.Need})
		}
	}
	return l
}

// oracle tells all that is wrong in items, in the order in which the chapter tells it, and goes on behind each.
type oracle struct {
	l         []api.Diag
	met       []string
	resources []api.Item
}

func (o *oracle) tell(e api.Errno, p api.Pos, what string) {
	o.l = append(o.l, api.Diag{Code: e, Pos: p, What: what})
}

// twice tells whether what is so called was met already.
func (o *oracle) twice(words ...string) bool {
	s := fmt.Sprintf("%q", words)
	if slices.Contains(o.met, s) {
		return true
	}
	o.met = append(o.met, s)
	return false
}

func (o *oracle) block(b api.Item, in, of, id string) {
	i := slices.IndexFunc(table, func(x rule) bool { return x.name == b.Name && x.in == in })
	if i < 0 {
		o.tell(api.ErrName, b.Pos, b.Name)
		return
	}
	x := table[i]
	if x.name == "lifecycle" && o.twice("lifecycle", id) {
		o.tell(api.ErrTwice, b.Pos, b.Name)
	}
	if !o.labels(b, x) {
		return
	}
	if x.name == "resource" {
		of = b.Labels[0]
		if o.resources = append(o.resources, b); len(o.resources) > 24 {
			o.tell(api.ErrLong, b.Pos, b.Name)
		}
		x.attrs = append(x.attrs, given(of)...)
	}
	for _, y := range b.Items {
		if y.Block && x.name == "locals" {
			o.tell(api.ErrName, y.Pos, y.Name)
		} else if y.Block {
			o.block(y, x.name, of, fmt.Sprint(b.Pos.At))
		} else {
			o.attribute(y, x, of, fmt.Sprint(b.Pos.At))
		}
	}
	for _, a := range x.attrs {
		if _, ok := conf.Attr(b.Items, a.name); a.must && !ok {
			o.tell(api.ErrNeed, b.Pos, a.name)
		}
	}
}

// labels tells what is wrong with a block's labels; whether it can be gone on behind.
func (o *oracle) labels(b api.Item, x rule) bool {
	if len(b.Labels) != len(x.labels) {
		o.tell(api.ErrArg, b.Pos, b.Name)
		return false
	}
	for i, s := range b.Labels {
		if x.labels[i] == "type" && !slices.Contains(schema.Types(), s) {
			o.tell(api.ErrName, b.Pos, s)
		}
		if x.labels[i] == "name" && !addr.Name(s) {
			o.tell(api.ErrArg, b.Pos, s)
		}
	}
	if n := len(b.Labels); n > 0 && o.twice(append([]string{b.Name}, b.Labels...)...) {
		o.tell(api.ErrTwice, b.Pos, b.Labels[n-1])
	}
	return true
}

func (o *oracle) attribute(y api.Item, x rule, of, id string) {
	if o.twice("attribute", id, y.Name) {
		o.tell(api.ErrTwice, y.Pos, y.Name)
	}
	i := slices.IndexFunc(x.attrs, func(a rule) bool { return a.name == y.Name || a.name == "*" })
	if i < 0 {
		o.tell(api.ErrName, y.Pos, y.Name)
		return
	}
	a := x.attrs[i]
	if a.name == "*" && !addr.Name(y.Name) {
		o.tell(api.ErrArg, y.Pos, y.Name)
	}
	if a.name == "*" && o.twice("local", y.Name) {
		o.tell(api.ErrTwice, y.Pos, y.Name)
	}
	if (y.Name == "count" || y.Name == "for_each") && x.name == "resource" && o.twice("choice", id) {
		o.tell(api.ErrTwice, y.Pos, y.Name)
	}
	o.literal(y, a.is, of)
}

func (o *oracle) literal(y api.Item, is, of string) {
	isText := func(e api.Expr) bool { return e.Op == api.ExLit && e.V.Kind == api.VStr }
	isOther := func(e api.Expr) bool { return !isText(e) }
	right := map[string]bool{
		"any":     true,
		"truth":   y.E.Op == api.ExLit && y.E.V.Kind == api.VBool,
		"type":    isText(y.E),
		"refs":    y.E.Op == api.ExList && !slices.ContainsFunc(y.E.L, isOther),
		"ignored": y.E.Op == api.ExList && !slices.ContainsFunc(y.E.L, isOther),
	}[is]
	if !right {
		o.tell(api.ErrType, y.Pos, y.Name)
		return
	}
	for _, e := range append([]api.Expr{y.E}, y.E.L...) {
		s := e.V.S
		switch is {
		case "type":
			if !slices.ContainsFunc(typ.All(), func(t api.Type) bool { return typ.Text(t) == s }) {
				o.tell(api.ErrName, y.Pos, s)
			}
		case "refs":
			if a, f := addr.Parse(s); e.Op == api.ExLit && (f != api.OK || a != addr.Base(a) || !slices.Contains(schema.Types(), a.Type)) {
				o.tell(api.ErrName, y.Pos, s)
			}
		case "ignored":
			if a, f := schema.Find(of, s); e.Op == api.ExLit && (f != api.OK || a.Computed) {
				o.tell(api.ErrName, y.Pos, s)
			}
		}
	}
}

// undeclared tells of resources the texts that name none.
func (o *oracle) undeclared() {
	tell := func(b api.Item, l []api.Item, name string) {
		x, _ := conf.Attr(l, name)
		for _, e := range x.E.L {
			if !slices.ContainsFunc(o.resources, func(r api.Item) bool { return strings.Join(r.Labels, ".") == e.V.S }) {
				o.tell(api.ErrName, b.Pos, e.V.S)
			}
		}
	}
	for _, b := range o.resources {
		tell(b, b.Items, "depends_on")
		for _, x := range conf.Blocks(b.Items, "lifecycle") {
			tell(b, x.Items, "replace_triggered_by")
		}
	}
}

// wrongIn is the first thing that is wrong in items.
func wrongIn(l []api.Item) api.Diag {
	o := oracle{}
	for _, x := range l {
		if x.Block {
			o.block(x, ".", "", "")
		} else {
			o.tell(api.ErrName, x.Pos, x.Name)
		}
	}
	o.undeclared()
	if len(o.l) == 0 {
		return api.Diag{}
	}
	return o.l[0]
}

// declaredBy is what items declare in which nothing is wrong, looked up name by name.
func declaredBy(l []api.Item) api.Config {
	var c api.Config
	for _, b := range conf.Blocks(l, "variable") {
		x := api.Input{Name: b.Labels[0], Pos: b.Pos}
		if a, ok := conf.Attr(b.Items, "type"); ok {
			x.T, _ = typ.Parse(a.E.V.S)
		}
		a, has := conf.Attr(b.Items, "default")
		x.Has, x.E = has, a.E
		c.Inputs = append(c.Inputs, x)
	}
	for _, b := range conf.Blocks(l, "locals") {
		for _, x := range b.Items {
			c.Locals = append(c.Locals, api.Field{Name: x.Name, E: x.E})
		}
	}
	for _, b := range conf.Blocks(l, "resource") {
		c.Resources = append(c.Resources, resourceBy(b))
	}
	for _, b := range conf.Blocks(l, "output") {
		a, _ := conf.Attr(b.Items, "value")
		c.Outputs = append(c.Outputs, api.Field{Name: b.Labels[0], E: a.E})
	}
	for _, x := range conf.Blocks(l, "check") {
		c.Checks = append(c.Checks, condBy(x, x.Labels[0]))
	}
	return c
}

func condBy(b api.Item, name string) api.Cond {
	c := api.Cond{Name: name, Say: text("")}
	c.Say.Pos = b.Pos
	if a, ok := conf.Attr(b.Items, "say"); ok {
		c.Say = a.E
	}
	a, _ := conf.Attr(b.Items, "if")
	c.If = a.E
	return c
}

func resourceBy(b api.Item) api.Resource {
	x := api.Resource{Type: b.Labels[0], Name: b.Labels[1], Pos: b.Pos}
	texts := func(l []api.Item, name string) []string {
		var texts []string
		a, _ := conf.Attr(l, name)
		for _, e := range a.E.L {
			texts = append(texts, e.V.S)
		}
		return texts
	}
	truth := func(l []api.Item, name string) bool {
		a, _ := conf.Attr(l, name)
		return a.E.V.I == 1
	}
	for _, a := range b.Items {
		switch {
		case a.Name == "count":
			x.Count = &a.E
		case a.Name == "for_each":
			x.Each = &a.E
		case !a.Block && a.Name != "depends_on":
			x.Fields = append(x.Fields, api.Field{Name: a.Name, E: a.E})
		}
	}
	x.Depends = texts(b.Items, "depends_on")
	for _, y := range conf.Blocks(b.Items, "lifecycle") {
		x.Guard, x.First = truth(y.Items, "prevent_destroy"), truth(y.Items, "create_before_destroy")
		x.Ignore, x.Trigger = texts(y.Items, "ignore_changes"), texts(y.Items, "replace_triggered_by")
	}
	for _, y := range conf.Blocks(b.Items, "precondition") {
		x.Pre = append(x.Pre, condBy(y, ""))
	}
	for _, y := range conf.Blocks(b.Items, "postcondition") {
		x.Post = append(x.Post, condBy(y, ""))
	}
	return x
}
