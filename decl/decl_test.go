package decl

import (
	"fmt"
	"slices"
	"strconv"
	"strings"
	"testing"

	"surety/api"
	"surety/conf"
	"surety/lex"
	"surety/schema"
	"surety/show"
	"surety/typ"
)

// told is an expression as a text, and its place.
func told(e api.Expr) string {
	s, f := show.Expr(e)
	if f != api.OK {
		s = fmt.Sprint(e)
	}
	return s + at(e.Pos)
}

func at(p api.Pos) string { return "@" + strconv.Itoa(p.At) }

func toldFields(l []api.Field) string {
	var rows []string
	for _, f := range l {
		rows = append(rows, f.Name+"="+told(f.E))
	}
	return strings.Join(rows, " ")
}

func toldConds(l []api.Cond) string {
	var rows []string
	for _, c := range l {
		rows = append(rows, c.Name+"("+told(c.If)+" say "+told(c.Say)+")")
	}
	return strings.Join(rows, " ")
}

func toldResource(r api.Resource) string {
	s := r.Type + "." + r.Name + at(r.Pos) + " {" + toldFields(r.Fields) + "}"
	if r.Count != nil {
		s += " count " + told(*r.Count)
	}
	if r.Each != nil {
		s += " each " + told(*r.Each)
	}
	if r.Guard {
		s += " guard"
	}
	if r.First {
		s += " first"
	}
	for i, l := range [][]string{r.Depends, r.Ignore, r.Trigger} {
		if len(l) > 0 {
			s += []string{" depends ", " ignore ", " trigger "}[i] + strings.Join(l, ",")
		}
	}
	if len(r.Pre) > 0 {
		s += " pre " + toldConds(r.Pre)
	}
	if len(r.Post) > 0 {
		s += " post " + toldConds(r.Post)
	}
	return s
}

// brief is a configuration as a text, with all that is in it: a part for each kind of which there are some.
func brief(c api.Config) string {
	var rows []string
	for _, x := range c.Inputs {
		s := "var " + x.Name + at(x.Pos) + " " + typ.Text(x.T)
		if x.Has {
			s += " default " + told(x.E)
		}
		rows = append(rows, s)
	}
	if len(c.Locals) > 0 {
		rows = append(rows, "locals "+toldFields(c.Locals))
	}
	for _, r := range c.Resources {
		rows = append(rows, toldResource(r))
	}
	if len(c.Outputs) > 0 {
		rows = append(rows, "outputs "+toldFields(c.Outputs))
	}
	if len(c.Checks) > 0 {
		rows = append(rows, "checks "+toldConds(c.Checks))
	}
	return strings.Join(rows, "; ")
}

func isNothing(c api.Config) bool { return Same(c, api.Config{}) }

// has holds that s declares what is told so.
func has(t *testing.T, s, want string) {
	t.Helper()
	c, d := Read(s)
	if d != (api.Diag{}) || brief(c) != want {
		t.Errorf("Read(%q) = %s, %v; want %s", s, brief(c), d, want)
	}
}

func reads(t *testing.T, s string) api.Config {
	t.Helper()
	c, d := Read(s)
	if d != (api.Diag{}) {
		t.Errorf("Read(%.200q): %v", s, d)
	}
	return c
}

// fine is items in which nothing is wrong.
const fine = "locals { z9 = 1 } resource \"note\" \"z9\" { depends_on = [\"note.z9\"] } # c\n"

// fails holds what is wrong in s, whose place is marked by a @; behind other items, too, and ahead of others that are wrong.
func fails(t *testing.T, s string, code api.Errno, what string) {
	t.Helper()
	failsAmong(t, s, code, what, [][2]string{{"", ""}, {"\n\t", "\n"}, {fine, ""}, {"", "\nvariable {}"}, {"", "\nzz = 1"}, {`resource "note" "y9" { depends_on = ["note.y8"] } `, ""}})
}

// failsLast holds what is wrong in s, which is told behind all else.
func failsLast(t *testing.T, s, what string) {
	t.Helper()
	failsAmong(t, s, api.ErrName, what, [][2]string{{"", ""}, {"\n\t", "\n"}, {fine, ""}, {"", "\n" + fine}, {"", ` resource "note" "y9" { depends_on = ["note.y8"] }`}})
}

func failsAmong(t *testing.T, s string, code api.Errno, what string, arounds [][2]string) {
	t.Helper()
	ahead, behind, ok := strings.Cut(s, "@")
	if !ok {
		t.Fatalf("%q has no mark", s)
	}
	for _, around := range arounds {
		s := around[0] + ahead + behind + around[1]
		want := api.Diag{Code: code, Pos: lex.At(s, len(around[0]+ahead)), What: what}
		if c, d := Read(s); d != want || !isNothing(c) {
			t.Errorf("Read(%q) = %s, %v; want %v", s, brief(c), d, want)
		}
	}
}

// P12.1: what each kind of items declares, and the places.
func TestDeclared(t *testing.T) {
	for _, x := range [][2]string{
		{"", ""},
		{"# a = 1", ""},
		{`variable "a" {}`, `var a@0 any`},
		{` variable "a" { type = "int" }`, `var a@1 int`},
		{`variable "a" { default = null }`, `var a@0 any default null@25`},
		{`variable "a" { default = 1 type = "list(int)" }`, `var a@0 list(int) default 1@25`},
		{`variable "b" {} variable "a" { type = "any" }`, `var b@0 any; var a@16 any`},
		{`variable "a" { default = x.y + [] }`, `var a@0 any default x.y + []@29`},
		{`locals {}`, ``},
		{`locals { b = 1 a = local.b }`, `locals b=1@13 a=local.b@24`},
		{`locals { b = 1 } locals {} locals { a = 2 }`, `locals b=1@13 a=2@40`},
		{`locals { true = 1 for = 2 count = each }`, `locals true=1@16 for=2@24 count=each@34`},
		{`output "o" { value = a.b }`, `outputs o=a.b@22`},
		{`output "o" { value = 1 } output "n" { value = 2 }`, `outputs o=1@21 n=2@46`},
		{`check "c" { if = a }`, `checks c(a@17 say ""@0)`},
		{` check "c" { say = "no ${b}" if = a }`, `checks c(a@34 say "no ${b}"@19)`},
		{`check "d" { if = a } check "c" { if = b }`, `checks d(a@17 say ""@0) c(b@38 say ""@21)`},
		{`resource "note" "a" {}`, `note.a@0 {}`},
		{`resource "disk" "a" { size = 1 }`, `disk.a@0 {size=1@29}`},
		{`resource "disk" "a" { size = 1 label = "x" kind = null }`, `disk.a@0 {size=1@29 label="x"@39 kind=null@50}`},
		{`resource "rule" "r" { to = a from = b allow = [] }`, `rule.r@0 {to=a@27 from=b@36 allow=[]@46}`},
		{`resource "node" "n" { image = i disk = d ports = [] secret = s tags = {} }`, `node.n@0 {image=i@30 disk=d@39 ports=[]@49 secret=s@61 tags={}@70}`},
		{`resource "note" "a" { meta = {} text = "" }`, `note.a@0 {meta={}@29 text=""@39}`},
		{`resource "note" "a" { count = 2 }`, `note.a@0 {} count 2@30`},
		{`resource "note" "a" { text = count.index count = x }`, `note.a@0 {text=count.index@34} count x@49`},
		{`resource "note" "a" { for_each = {} }`, `note.a@0 {} each {}@33`},
		{`resource "note" "a" {} resource "note" "b" { depends_on = ["note.a"] }`, `note.a@0 {}; note.b@23 {} depends note.a`},
		{`resource "note" "b" { depends_on = ["note.b", "disk.d", "note.b"] } resource "disk" "d" { size = 1 }`, `note.b@0 {} depends note.b,disk.d,note.b; disk.d@68 {size=1@97}`},
		{`resource "note" "a" { depends_on = [] lifecycle { ignore_changes = [] replace_triggered_by = [] } }`, `note.a@0 {}`},
		{`resource "note" "a" { lifecycle {} }`, `note.a@0 {}`},
		{`resource "note" "a" { lifecycle { prevent_destroy = true } }`, `note.a@0 {} guard`},
		{`resource "note" "a" { lifecycle { create_before_destroy = true } }`, `note.a@0 {} first`},
		{`resource "note" "a" { lifecycle { prevent_destroy = false create_before_destroy = false } }`, `note.a@0 {}`},
		{`resource "note" "a" { lifecycle { create_before_destroy = (true) prevent_destroy = true } }`, `note.a@0 {} guard first`},
		{`resource "note" "a" { lifecycle { ignore_changes = ["text", "meta", "text"] } }`, `note.a@0 {} ignore text,meta,text`},
		{`resource "note" "a" { lifecycle { replace_triggered_by = ["note.b", "note.a"] } } resource "note" "b" {}`, `note.a@0 {} trigger note.b,note.a; note.b@82 {}`},
		{`resource "note" "a" { precondition { if = a } }`, `note.a@0 {} pre (a@42 say ""@22)`},
		{`resource "note" "a" { postcondition { say = 1 if = self.id } }`, `note.a@0 {} post (self.id@55 say 1@44)`},
		{`resource "note" "a" { precondition { if = a } postcondition { if = b } precondition { if = c } postcondition { if = d } }`, `note.a@0 {} pre (a@42 say ""@22) (c@91 say ""@71) post (b@67 say ""@46) (d@116 say ""@95)`},
		{`resource "note" "a" {} resource "disk" "a" { size = 1 } resource "note" "b" {}`, `note.a@0 {}; disk.a@23 {size=1@52}; note.b@56 {}`},
		{`output "a" { value = 1 } locals { a = 1 } check "a" { if = a } resource "note" "a" {} variable "a" {}`, `var a@86 any; locals a=1@38; note.a@63 {}; outputs a=1@21; checks a(a@59 say ""@42)`},
	} {
		has(t, x[0], x[1])
		has(t, x[0]+"\n# c", x[1])
	}
}

// P12.1: all of a resource at once, in the order in which it stands.
func TestWhole(t *testing.T) {
	s := "variable \"n\" { type = \"int\" }\nresource \"node\" \"x\" {\n  lifecycle {\n    replace_triggered_by = [\"note.t\"]\n    ignore_changes = [\"tags\", \"image\"]\n    create_before_destroy = true\n    prevent_destroy = true\n  }\n  tags = {}\n  postcondition {\n    if = self.addr != null\n  }\n  count = var.n\n  image = \"i\"\n  precondition {\n    say = \"s\"\n    if = var.n > 0\n  }\n  depends_on = [\"note.t\", \"node.x\"]\n}\nresource \"note\" \"t\" {}\n"
	c := reads(t, s)
	if len(c.Inputs) != 1 || len(c.Resources) != 2 {
		t.Fatal(brief(c))
	}
	pos := func(piece string) api.Pos { return lex.At(s, strings.Index(s, piece)) }
	for _, x := range [][2]api.Pos{
		{c.Inputs[0].Pos, pos("variable")}, {c.Resources[0].Pos, pos("resource")}, {c.Resources[1].Pos, pos(`resource "note"`)},
		{c.Resources[0].Fields[0].E.Pos, pos("{}\n")}, {c.Resources[0].Fields[1].E.Pos, pos(`"i"`)}, {c.Resources[0].Count.Pos, pos(".n\n  im")},
		{c.Resources[0].Pre[0].If.Pos, pos("> 0")}, {c.Resources[0].Pre[0].Say.Pos, pos(`"s"`)}, {c.Resources[0].Post[0].Say.Pos, pos("postcondition")},
	} {
		if x[0] != x[1] {
			t.Errorf("a place %v; want %v", x[0], x[1])
		}
	}
	want := "node.x {tags={} image=\"i\"} count var.n guard first depends note.t,node.x ignore tags,image trigger note.t pre (var.n > 0 say \"s\") post (self.addr != null say \"\")"
	if got := withoutPlaces(toldResource(c.Resources[0])); got != want {
		t.Errorf("%s; want %s", got, want)
	}
}

// withoutPlaces is a told text without what stands behind each @.
func withoutPlaces(s string) string {
	pieces := strings.Split(s, "@")
	for i := range pieces[1:] {
		pieces[i+1] = strings.TrimLeft(pieces[i+1], "0123456789")
	}
	return strings.Join(pieces, "")
}

// P12.1: what is wrong of an item outside of all blocks, and of a block's labels.
func TestWrongBlocks(t *testing.T) {
	for _, x := range []struct {
		s    string
		code api.Errno
		what string
	}{
		{`@a = 1`, api.ErrName, "a"}, {`@variable = 1`, api.ErrName, "variable"}, {`@locals = {}`, api.ErrName, "locals"}, {`@resource = 1`, api.ErrName, "resource"}, {`@count = 1`, api.ErrName, "count"}, {`@for = 1`, api.ErrName, "for"}, {`@_ = 1`, api.ErrName, "_"},
		{`@thing {}`, api.ErrName, "thing"}, {`@thing "a" "b" {}`, api.ErrName, "thing"}, {`@variables "a" {}`, api.ErrName, "variables"}, {`@local {}`, api.ErrName, "local"}, {`@var "a" {}`, api.ErrName, "var"}, {`@disk "a" {}`, api.ErrName, "disk"}, {`@a { b = 1 }`, api.ErrName, "a"},
		{`@lifecycle {}`, api.ErrName, "lifecycle"}, {`@precondition { if = true }`, api.ErrName, "precondition"}, {`@postcondition { if = true }`, api.ErrName, "postcondition"}, {`@if {}`, api.ErrName, "if"},
		{`@variable {}`, api.ErrArg, "variable"}, {`@variable "a" "b" {}`, api.ErrArg, "variable"}, {`@variable "A" "b" "c" "d" {}`, api.ErrArg, "variable"},
		{`@locals "a" {}`, api.ErrArg, "locals"}, {`@locals "a" { b = 1 }`, api.ErrArg, "locals"},
		{`@resource {}`, api.ErrArg, "resource"}, {`@resource "note" {}`, api.ErrArg, "resource"}, {`@resource "x" {}`, api.ErrArg, "resource"}, {`@resource "note" "a" "b" {}`, api.ErrArg, "resource"},
		{`@output {}`, api.ErrArg, "output"}, {`@output "a" "b" { value = 1 }`, api.ErrArg, "output"}, {`@check { if = true }`, api.ErrArg, "check"}, {`@check "a" "b" { if = true }`, api.ErrArg, "check"},
		{`resource "note" "a" { @lifecycle "a" {} }`, api.ErrArg, "lifecycle"}, {`resource "note" "a" { @lifecycle "" {} }`, api.ErrArg, "lifecycle"}, {`resource "note" "a" { @precondition "a" { if = true } }`, api.ErrArg, "precondition"}, {`resource "note" "a" { @postcondition "a" "b" { if = true } }`, api.ErrArg, "postcondition"},
		{`@variable "" {}`, api.ErrArg, ""}, {`@variable "A" {}`, api.ErrArg, "A"}, {`@variable "_a" {}`, api.ErrArg, "_a"}, {`@variable "1" {}`, api.ErrArg, "1"}, {`@variable "a.b" {}`, api.ErrArg, "a.b"}, {`@variable "abcdefghijklmnopqrstuvwxy" {}`, api.ErrArg, "abcdefghijklmnopqrstuvwxy"},
		{`@output "a-b" { value = 1 }`, api.ErrArg, "a-b"}, {`@check "a b" { if = true }`, api.ErrArg, "a b"},
		{`@resource "x" "a" {}`, api.ErrName, "x"}, {`@resource "" "a" {}`, api.ErrName, ""}, {`@resource "Disk" "a" {}`, api.ErrName, "Disk"}, {`@resource "disks" "a" {}`, api.ErrName, "disks"}, {`@resource "a" "disk" {}`, api.ErrName, "a"}, {`@resource "x" "A" {}`, api.ErrName, "x"},
		{`@resource "note" "A" {}`, api.ErrArg, "A"}, {`@resource "note" "" {}`, api.ErrArg, ""}, {`@resource "note" "note.a" {}`, api.ErrArg, "note.a"},
		{`variable "a" {} @variable "a" {}`, api.ErrTwice, "a"}, {`variable "a" {} variable "b" {} @variable "a" { type = "int" }`, api.ErrTwice, "a"},
		{`resource "note" "a" {} @resource "note" "a" {}`, api.ErrTwice, "a"}, {`resource "disk" "d" { size = 1 } resource "note" "a" {} @resource "disk" "d" {}`, api.ErrTwice, "d"},
		{`output "a" { value = 1 } @output "a" { value = 2 }`, api.ErrTwice, "a"}, {`check "a" { if = true } @check "a" { if = true }`, api.ErrTwice, "a"},
		{`variable "a" {} output "a" { value = 1 } resource "note" "a" {} check "a" { if = 1 } locals { a = 1 } @check "a" {}`, api.ErrTwice, "a"},
	} {
		fails(t, x.s, x.code, x.what)
	}
}

// P12.1: what is wrong of what stands in a block.
func TestWrongInside(t *testing.T) {
	for _, x := range []struct {
		s    string
		code api.Errno
		what string
	}{
		{`variable "a" { @value = 1 }`, api.ErrName, "value"}, {`variable "a" { @type {} }`, api.ErrName, "type"}, {`variable "a" { type = "int" @default {} }`, api.ErrName, "default"},
		{`locals { @a {} }`, api.ErrName, "a"}, {`locals { a = 1 @a "b" {} }`, api.ErrName, "a"}, {`locals { @locals {} }`, api.ErrName, "locals"},
		{`locals { @_a = 1 }`, api.ErrArg, "_a"}, {`locals { a = 1 @_ = 1 }`, api.ErrArg, "_"},
		{`locals { a = 1 } locals { @a = 1 }`, api.ErrTwice, "a"}, {`locals { a = 1 b = 2 } locals { c = 1 @b = 1 a = 2 }`, api.ErrTwice, "b"},
		{`resource "disk" "a" { @id = "x" size = 1 }`, api.ErrName, "id"}, {`resource "disk" "a" { size = 1 @serial = 1 }`, api.ErrName, "serial"}, {`resource "note" "a" { @size = 1 }`, api.ErrName, "size"}, {`resource "note" "a" { @text {} }`, api.ErrName, "text"}, {`resource "note" "a" { @lifecycle = {} }`, api.ErrName, "lifecycle"}, {`resource "note" "a" { @count {} }`, api.ErrName, "count"}, {`resource "note" "a" { @provisioner {} }`, api.ErrName, "provisioner"}, {`resource "note" "a" { @prevent_destroy = true }`, api.ErrName, "prevent_destroy"}, {`resource "note" "a" { @if = true }`, api.ErrName, "if"}, {`resource "note" "a" { @check "b" {} }`, api.ErrName, "check"}, {`resource "note" "a" { @resource "note" "b" {} }`, api.ErrName, "resource"},
		{`resource "note" "a" { count = 1 @for_each = {} }`, api.ErrTwice, "for_each"}, {`resource "note" "a" { for_each = {} text = 1 @count = 1 }`, api.ErrTwice, "count"},
		{`resource "note" "a" { lifecycle {} @lifecycle {} }`, api.ErrTwice, "lifecycle"}, {`resource "note" "a" { lifecycle {} @lifecycle "x" { y = 1 } }`, api.ErrTwice, "lifecycle"}, {`resource "note" "a" { lifecycle { prevent_destroy = true } text = "" @lifecycle { prevent_destroy = true } }`, api.ErrTwice, "lifecycle"},
		{`resource "note" "a" { lifecycle { @text = 1 } }`, api.ErrName, "text"}, {`resource "note" "a" { lifecycle { @lifecycle {} } }`, api.ErrName, "lifecycle"}, {`resource "note" "a" { lifecycle { @precondition { if = 1 } } }`, api.ErrName, "precondition"}, {`resource "note" "a" { lifecycle { @depends_on = [] } }`, api.ErrName, "depends_on"}, {`resource "note" "a" { lifecycle { @prevent_destroy {} } }`, api.ErrName, "prevent_destroy"},
		{`resource "note" "a" { precondition { @then = 1 } }`, api.ErrName, "then"}, {`resource "note" "a" { postcondition { if = 1 @value = 1 } }`, api.ErrName, "value"}, {`resource "note" "a" { precondition { @if {} } }`, api.ErrName, "if"},
		{`output "o" { @other = 2 value = 1 }`, api.ErrName, "other"}, {`output "o" { value = 1 @if = 2 }`, api.ErrName, "if"}, {`output "o" { @value {} }`, api.ErrName, "value"}, {`output "o" { value = 1 @precondition {} }`, api.ErrName, "precondition"},
		{`check "o" { @check "p" {} }`, api.ErrName, "check"}, {`check "o" { if = 1 @value = 1 }`, api.ErrName, "value"}, {`check "o" { @say {} }`, api.ErrName, "say"},
		{`@output "o" {}`, api.ErrNeed, "value"}, {`@check "o" {}`, api.ErrNeed, "if"}, {`@check "o" { say = 1 }`, api.ErrNeed, "if"}, {`resource "note" "a" { text = "" @precondition { say = 1 } }`, api.ErrNeed, "if"}, {`resource "note" "a" { @postcondition {} }`, api.ErrNeed, "if"},
		{`@resource "disk" "a" {}`, api.ErrNeed, "size"}, {`@resource "disk" "a" { kind = "" lifecycle {} }`, api.ErrNeed, "size"}, {`@resource "node" "a" { tags = {} }`, api.ErrNeed, "image"}, {`@resource "rule" "a" { to = "" }`, api.ErrNeed, "from"},
	} {
		fails(t, x.s, x.code, x.what)
	}
}

// P12.1: of what is wrong the first thing is told, block by block, item by item; a block's end behind all that stands in it.
func TestFirst(t *testing.T) {
	for _, x := range []struct {
		s    string
		code api.Errno
		what string
	}{
		{`output "a" { value = 1 } @output "A" {}`, api.ErrArg, "A"},
		{`variable "a" {} @variable "a" { b = 1 }`, api.ErrTwice, "a"},
		{`resource "disk" "a" { size = 1 } @resource "disk" "a" { id = 1 }`, api.ErrTwice, "a"},
		{`output "a" { @b = 1 }`, api.ErrName, "b"},
		{`check "a" { say = 1 @b {} }`, api.ErrName, "b"},
		{`resource "disk" "a" { precondition { if = 1 } @b = 1 precondition {} }`, api.ErrName, "b"},
		{`resource "disk" "a" { @precondition {} b = 1 }`, api.ErrNeed, "if"},
		{`resource "disk" "a" { precondition { @b = 1 } c = 1 }`, api.ErrName, "b"},
		{`resource "disk" "a" { count = 1 lifecycle { @prevent_destroy = 1 } for_each = {} }`, api.ErrType, "prevent_destroy"},
		{`resource "disk" "a" { @depends_on = 1 count = 1 for_each = {} }`, api.ErrType, "depends_on"},
		{`resource "disk" "a" { count = 1 @for_each = {} depends_on = 1 }`, api.ErrTwice, "for_each"},
		{`resource "disk" "a" { @depends_on = ["x"] depends = 1 }`, api.ErrName, "x"},
		{`@resource "disk" "a" { depends_on = ["disk.b"] }`, api.ErrNeed, "size"},
		{`resource "note" "a" { depends_on = ["note.b"] } @resource "disk" "a" {}`, api.ErrNeed, "size"},
		{`resource "note" "a" { depends_on = ["note.b"] } output "o" { value = 1 @values = 1 }`, api.ErrName, "values"},
		{`resource "note" "a" { lifecycle { replace_triggered_by = ["note.b"] } } @a = 1`, api.ErrName, "a"},
		{`resource "note" "a" { lifecycle { @prevent_destroy = 1 } lifecycle {} }`, api.ErrType, "prevent_destroy"},
		{`resource "note" "a" { lifecycle { @ignore_changes = ["id"] prevent_destroy = 1 } }`, api.ErrName, "id"},
		{`variable "a" { @type = "x" b = 1 }`, api.ErrName, "x"},
	} {
		fails(t, x.s, x.code, x.what)
	}
}

// P12.1: Read tells layer 9's Diags, ahead of what is wrong of what is declared.
func TestWrongTexts(t *testing.T) {
	for _, s := range []string{`"`, "a", "a = ", "a {", "thing {} &", "a = 1 b = 2 a = 3", `variable "a" { type = "int" type = "int" }`, "a " + strings.Repeat(`"b" `, 5) + "{}", strings.Repeat("a { ", 9) + strings.Repeat("}", 9), strings.Repeat("thing {} ", 129), strings.Repeat(" ", api.MaxText+1), `locals { a = "${b c}" }`, "locals { a = " + strings.Repeat("-", 24) + "b }", "\n01"} {
		_, want := conf.Read(s)
		if c, d := Read(s); want.Code == api.OK || d != want || !isNothing(c) {
			t.Errorf("Read(%.80q) = %s, %v; want %v", s, brief(c), d, want)
		}
	}
}

// literals are expressions, each with what it is a literal of: b a truth, s a text, l texts.
var literals = [][2]string{
	{"true", "b"}, {"false", "b"}, {"(true)", "b"}, {`"x"`, "s"}, {`""`, "s"}, {`("x")`, "s"}, {`[]`, "l"}, {`["x"]`, "l"}, {`["x", "y",]`, "l"}, {`([("x")])`, "l"},
	{"1", ""}, {"null", ""}, {"a", ""}, {"a.b", ""}, {"a[0]", ""}, {"f()", ""}, {"!true", ""}, {"-1", ""}, {`"x" + "y"`, ""}, {"true && true", ""}, {"true ? true : true", ""}, {`true ? "x" : "x"`, ""}, {`"x${a}"`, ""}, {`"${true}"`, ""}, {"{}", ""}, {`[true]`, ""}, {`[1]`, ""}, {`[null]`, ""}, {`["x", 1]`, ""}, {`["x", y]`, ""}, {`[["x"]]`, ""}, {`["${x}"]`, ""}, {`[for v in ["x"] : v]`, ""}, {`["x"][0]`, ""}, {`{x = "y"}`, ""},
}

// P12.1: attributes that are to be literals.
func TestLiterals(t *testing.T) {
	for _, x := range []struct{ ahead, name, of string }{
		{`variable "a" { `, "type", "s"},
		{`resource "note" "a" { `, "depends_on", "l"},
		{`resource "note" "a" { lifecycle { `, "prevent_destroy", "b"},
		{`resource "note" "a" { lifecycle { `, "create_before_destroy", "b"},
		{`resource "note" "a" { lifecycle { `, "ignore_changes", "l"},
		{`resource "note" "a" { lifecycle { `, "replace_triggered_by", "l"},
	} {
		ends := strings.Repeat(" }", strings.Count(x.ahead, "{"))
		for _, l := range literals {
			s := x.ahead + x.name + " = " + l[0] + ends
			if l[1] != x.of {
				fails(t, x.ahead+"@"+x.name+" = "+l[0]+ends, api.ErrType, x.name)
			} else if _, d := Read(s); d.Code == api.ErrType {
				t.Errorf("Read(%q): %v", s, d)
			}
		}
	}
	fails(t, `resource "note" "a" { @depends_on = ["x", 1] }`, api.ErrType, "depends_on")
	fails(t, `resource "note" "a" { lifecycle { @ignore_changes = ["id", a] } }`, api.ErrType, "ignore_changes")
	for _, s := range []string{"count", "for_each", "text", "meta"} {
		for _, l := range literals {
			reads(t, `resource "note" "a" { `+s+" = "+l[0]+" }")
		}
	}
	for _, l := range literals {
		reads(t, `variable "a" { default = `+l[0]+` } locals { a = `+l[0]+` } output "o" { value = `+l[0]+` } check "c" { say = `+l[0]+` if = `+l[0]+" }")
	}
}

// P12.1: texts of types.
func TestTypes(t *testing.T) {
	for _, x := range typ.All() {
		c := reads(t, `variable "a" { type = "`+typ.Text(x)+`" }`)
		if len(c.Inputs) != 1 || c.Inputs[0].T != x || c.Inputs[0].Has {
			t.Errorf("%s: %s", typ.Text(x), brief(c))
		}
	}
	for _, s := range []string{"", "?", "x", "number", "Int", " int", "int ", "list(any)", "list()", "list(list)", "map(int", "int(int)", "string", "null"} {
		fails(t, `variable "a" { @type = "`+s+`" }`, api.ErrName, s)
	}
}

// resourceOf is a resource with all that it needs, and nothing else but what is given.
func resourceOf(of, name, given string) string {
	needs := map[string]string{"disk": "size = 1", "node": "image = 1", "note": "", "rule": "from = 1"}[of]
	return fmt.Sprintf("resource %q %q { %s %s }\n", of, name, needs, given)
}

// P12.1: reference texts, in both places in which they may stand.
func TestReferences(t *testing.T) {
	var all, texts []string
	for _, of := range schema.Types() {
		for _, name := range []string{"a", "true", "x_9", "abcdefghijklmnopqrstuvwx"} {
			all = append(all, resourceOf(of, name, ""))
			texts = append(texts, of+"."+name)
		}
	}
	wrong := []string{"", ".", "a", "note", "note.", ".a", "x.a", "Note.a", "note.A", "note._a", "note.1", "note.a.b", "note..a", "note.a[0]", "note.a.", " note.a", "note .a", "note.a ", "note.abcdefghijklmnopqrstuvwxy", "data.note.a", "var.a", "note.a#1", "\n", "note\x00.a", "n.ote.a"}
	for _, x := range [][2]string{{"@depends_on = [", "]"}, {"lifecycle { @replace_triggered_by = [", "] }"}} {
		given := func(l ...string) string {
			for i := range l {
				l[i] = lex.Quote(l[i])
			}
			return x[0] + strings.Join(l, ", ") + x[1]
		}
		for i, s := range texts {
			z := strings.Replace(resourceOf("note", "z", given(s)), "@", "", 1)
			c := reads(t, z+strings.Join(all, ""))
			if len(c.Resources) == 0 || !slices.Equal(slices.Concat(c.Resources[0].Depends, c.Resources[0].Trigger), []string{s}) {
				t.Errorf("%s: %s", s, brief(c))
			}
			reads(t, strings.Join(all, "")+z)
			failsLast(t, "@"+z+strings.Join(slices.Concat(all[:i], all[i+1:]), ""), s)
			for _, w := range wrong {
				fails(t, resourceOf("note", "z", given(s, w, "x"))+all[i], api.ErrName, w)
			}
		}
	}
	reads(t, resourceOf("note", "z", `depends_on = ["note.z"] lifecycle { replace_triggered_by = ["note.z"] }`))
}

// P12.1: reference texts of what isn't declared: resource by resource, of depends_on ahead of the others.
func TestUndeclared(t *testing.T) {
	for _, x := range [][2]string{
		{`@resource "note" "a" { depends_on = ["note.b"] }`, "note.b"},
		{`@resource "note" "a" { depends_on = ["disk.a"] }`, "disk.a"},
		{`@resource "note" "a" { depends_on = ["note.a", "note.c", "note.b"] }`, "note.c"},
		{`@resource "note" "a" { lifecycle { replace_triggered_by = ["note.c", "note.b"] } }`, "note.c"},
		{`@resource "note" "a" { lifecycle { replace_triggered_by = ["note.b"] } depends_on = ["note.a", "note.c"] }`, "note.c"},
		{`@resource "note" "a" { lifecycle { replace_triggered_by = ["note.a", "note.b"] } depends_on = ["note.a"] }`, "note.b"},
		{`resource "note" "b" {} @resource "note" "a" { depends_on = ["note.b", "rule.b"] } resource "note" "c" { depends_on = ["note.d"] }`, "rule.b"},
		{`@resource "note" "a" { lifecycle { replace_triggered_by = ["note.d"] } } resource "note" "b" { depends_on = ["note.e"] }`, "note.d"},
		{`variable "b" {} output "b" { value = 1 } check "b" { if = 1 } locals { b = 1 } @resource "note" "a" { depends_on = ["note.b"] }`, "note.b"},
	} {
		failsLast(t, x[0], x[1])
	}
}

// P12.1: texts of attributes that may be ignored.
func TestIgnored(t *testing.T) {
	for _, of := range schema.Types() {
		attrs, _ := schema.Attrs(of)
		for _, a := range attrs {
			if a.Computed {
				fails(t, resourceOf(of, "a", `lifecycle { @ignore_changes = ["`+a.Name+`"] }`), api.ErrName, a.Name)
				continue
			}
			c := reads(t, resourceOf(of, "a", `lifecycle { ignore_changes = ["`+a.Name+`", "`+a.Name+`"] }`))
			if len(c.Resources) != 1 || !slices.Equal(c.Resources[0].Ignore, []string{a.Name, a.Name}) {
				t.Errorf("%s.%s: %s", of, a.Name, brief(c))
			}
		}
		for _, s := range []string{"", "x", "count", "depends_on", "lifecycle", "all", "Text", "text ", of, of + ".a"} {
			fails(t, resourceOf(of, "a", `lifecycle { @ignore_changes = [`+lex.Quote(s)+`, "id"] }`), api.ErrName, s)
		}
	}
	fails(t, `resource "note" "a" { lifecycle { @ignore_changes = ["text", "size", "id"] } }`, api.ErrName, "size")
}

// P12.1: the types' attributes, of each type those that it has and that aren't computed.
func TestAttributes(t *testing.T) {
	names := map[string]int{}
	for _, of := range schema.Types() {
		attrs, _ := schema.Attrs(of)
		for _, a := range attrs {
			names[a.Name]++
		}
	}
	for _, of := range schema.Types() {
		for n := range names {
			a, e := schema.Find(of, n)
			given := n + " = x"
			s := resourceOf(of, "a", given)
			switch {
			case e != api.OK || a.Computed:
				fails(t, resourceOf(of, "a", "@"+given), api.ErrName, n)
			case a.Need:
				has(t, fmt.Sprintf("resource %q \"a\" { %s }", of, given), fmt.Sprintf("%s.a@0 {%s=x@%d}", of, n, 21+len(given)))
			default:
				if c := reads(t, s); len(c.Resources) != 1 || !slices.ContainsFunc(c.Resources[0].Fields, func(f api.Field) bool { return f.Name == n && f.E.S == "x" }) {
					t.Errorf("%q: %s", s, brief(c))
				}
			}
		}
	}
}

// P12.1: the greatest number of resources, and one more.
func TestManyResources(t *testing.T) {
	row := func(n int) string {
		var b strings.Builder
		for i := range n {
			b.WriteString(resourceOf(schema.Types()[i%4], "n"+strconv.Itoa(i), ""))
		}
		return b.String()
	}
	full := row(api.MaxRes)
	c := reads(t, full+`variable "a" {}`)
	if len(c.Resources) != api.MaxRes || len(c.Inputs) != 1 {
		t.Error(brief(c))
	}
	for _, x := range []struct {
		more string
		code api.Errno
		what string
	}{
		{`@resource "note" "a" {}`, api.ErrLong, "resource"},
		{`@resource "disk" "n1" { id = 1 }`, api.ErrLong, "resource"},
		{`@resource "note" "a" { depends_on = 1 } resource "note" "b" {}`, api.ErrLong, "resource"},
		{`@resource "disk" "n4" {}`, api.ErrTwice, "n4"},
		{`@resource "x" "a" {}`, api.ErrName, "x"},
		{`@resource "note" "A" {}`, api.ErrArg, "A"},
		{`@resource "note" {}`, api.ErrArg, "resource"},
		{`output "o" { @values = 1 } resource "note" "a" {}`, api.ErrName, "values"},
	} {
		failsAmong(t, full+x.more, x.code, x.what, [][2]string{{"", ""}, {"\n", "\nzz = 1"}})
	}
	failsAmong(t, `resource "note" "a" { depends_on = ["note.b"] }`+row(23)+"@"+`resource "note" "c" {}`, api.ErrLong, "resource", [][2]string{{"", ""}})
}

// P12.2: the places of resources.
func TestFind(t *testing.T) {
	c := reads(t, resourceOf("note", "a", "")+resourceOf("disk", "a", "")+resourceOf("note", "b", ""))
	for _, x := range []struct {
		of, name string
		want     int
	}{
		{"note", "a", 0}, {"disk", "a", 1}, {"note", "b", 2}, {"disk", "b", -1}, {"rule", "a", -1}, {"note", "", -1}, {"", "a", -1}, {"", "", -1}, {"a", "note", -1}, {"note", "a ", -1}, {"not", "a", -1}, {"note.a", "", -1},
	} {
		if got := Find(c, x.of, x.name); got != x.want {
			t.Errorf("Find(%q, %q) = %d; want %d", x.of, x.name, got, x.want)
		}
	}
	if Find(api.Config{}, "note", "a") != -1 || Find(api.Config{}, "", "") != -1 || Find(api.Config{Inputs: []api.Input{{Name: "a"}}}, "", "a") != -1 {
		t.Error("found where there is none")
	}
	odd := api.Config{Resources: []api.Resource{{}, {Type: "x", Name: "y"}, {Type: "x", Name: "y"}, {Type: "x", Name: "y.z"}, {Type: "x.y", Name: "z"}}}
	for i, r := range odd.Resources {
		if got := Find(odd, r.Type, r.Name); got != i && !(i == 2 && got == 1) {
			t.Errorf("Find(%q, %q) = %d; want %d", r.Type, r.Name, got, i)
		}
	}
}
