package refs

import (
	"slices"
	"strings"
	"testing"

	"surety/api"
	"surety/decl"
	"surety/expr"
)

// brief has what was asked for as one text.
func brief(l []api.Ref) string {
	var s []string
	for _, r := range l {
		if r.Name == "" {
			s = append(s, r.Root)
		} else {
			s = append(s, r.Root+"."+r.Name)
		}
	}
	return strings.Join(s, " ")
}

func tree(t *testing.T, s string) api.Expr {
	t.Helper()
	e, d := expr.Parse(s)
	if d.Code != api.OK {
		t.Fatal(s, d)
	}
	return e
}

func TestOf(t *testing.T) {
	for _, x := range [][2]string{
		{`1`, ``},
		{`null`, ``},
		{`"a.b"`, ``},
		{`[]`, ``},
		{`{}`, ``},
		{`f()`, ``},
		{`a`, `a`},
		{`a.b`, `a.b`},
		{`(a).b`, `a.b`},
		{`a.b.c`, `a.b`},
		{`a[0].b`, `a`},
		{`a.b[c.d].e[f]`, `a.b c.d f`},
		{`a[b][c.d]`, `a b c.d`},
		{`disk.a.id + local.x`, `disk.a local.x`},
		{`f(a, g(b.c))`, `a b.c`},
		{`f(f)`, `f`},
		{`!a`, `a`},
		{`-a.b`, `a.b`},
		{`a * b / c % d + e - f`, `a b c d e f`},
		{`a < b || c <= d && e > f || g >= h`, `a b c d e f g h`},
		{`a == b || c != d`, `a b c d`},
		{`c ? b.x : a`, `a b.x c`},
		{`[c, b, a.x]`, `a.x b c`},
		{`{ a = b, "c" = d.e, true = f }`, `b d.e f`},
		{`{ "${a}" = b }`, `a b`},
		{`"x${a}y${b.c}"`, `a b.c`},
		{`"${[f((a.b))]}"`, `a.b`},
		{`f(a).b`, `a`},
		{`[a].b`, `a`},
		{`{ a = a }.a`, `a`},
	} {
		if s := brief(Of(tree(t, x[0]))); s != x[1] {
			t.Errorf("%s: %s, want %s", x[0], s, x[1])
		}
	}
}

func TestOfOrder(t *testing.T) {
	for _, x := range [][2]string{
		{`[a, a, a.b, a.b, a, a.b]`, `a a.b`},
		{`[b, a, ab, aa, _, b1, a_]`, `_ a a_ aa ab b b1`},
		{`[b.a, a.b, b, a, a.ab, a.aa, a._, a.a, ab.a]`, `a a._ a.a a.aa a.ab a.b ab.a b b.a`},
		{`[aa.b, a.bb, a.b, aa.a]`, `a.b a.bb aa.a aa.b`},
	} {
		if s := brief(Of(tree(t, x[0]))); s != x[1] {
			t.Errorf("%s: %s, want %s", x[0], s, x[1])
		}
	}
}

func TestOfFor(t *testing.T) {
	for _, x := range [][2]string{
		{`[for v in l : v.k]`, `l`},
		{`[for v in l : v]`, `l`},
		{`[for v in v : v]`, `v`},
		{`[for v in v.k : v.k]`, `v.k`},
		{`[for k, v in k.v : [k, v, k.v, v.k]]`, `k.v`},
		{`[for k, v in [k, v] : 1]`, `k v`},
		{`[for v in l : w if v.x == u.y]`, `l u.y w`},
		{`[for v in l : 1 if v]`, `l`},
		{`[for v in l : k.v]`, `k.v l`},
		{`{for v in l : v => v if v}`, `l`},
		{`{for k, v in m : "${k}${v.x}" => [k, v, n] if k == v}`, `m n`},
		{`{for k, v in k : "${a}" => b if c}`, `a b c k`},
		{`[[for v in l : v], v]`, `l v`},
		{`[v, [for v in l : v]]`, `l v`},
		{`[for v in l : [for v in v : v]]`, `l`},
		{`[for v in l : [[for v in m : v], v]]`, `l m`},
		{`[for v in l : [[for v, v in m : v], v]]`, `l m`},
		{`[[for v, v in m : v], v]`, `m v`},
		{`[for v in [for w in v : w] : w]`, `v w`},
		{`[for v in [for v in l : v] : v]`, `l`},
		{`[for a in x : [for b in y : [a, b, c]]]`, `c x y`},
		{`[for a in x : [for b in a : b if a] if b]`, `b x`},
		{`[for f in l : f(x)]`, `l x`},
		{`[for k, v in l : 1] == [k, v]`, `k l v`},
		{`"${[for v in l : v]}${v.x}"`, `l v.x`},
		{`[for local in x : local.a]`, `x`},
		{`[for a in x : x.a]`, `x x.a`},
	} {
		if s := brief(Of(tree(t, x[0]))); s != x[1] {
			t.Errorf("%s: %s, want %s", x[0], s, x[1])
		}
	}
}

// read reads a text in which a @ may stand ahead of a name, of which the place is told.
func read(t *testing.T, s string) (api.Config, api.Pos) {
	t.Helper()
	ahead, _, found := strings.Cut(s, "@")
	c, d := decl.Read(strings.Replace(s, "@", "", 1))
	if d.Code != api.OK {
		t.Fatal(s, d)
	}
	if !found {
		return c, api.Pos{}
	}
	return c, api.Pos{At: len(ahead), Line: 1 + strings.Count(ahead, "\n"), Col: len(ahead) - strings.LastIndex(ahead, "\n")}
}

// around is a text about which a test asks: what all its places may ask for is declared.
const around = `
variable "v" { default = 1 }
locals { l = 1 }
resource "disk" "d" { size = 1 }
resource "node" "n" { image = "i" }
resource "note" "t" {}
resource "rule" "r" { from = "f" }
`

// TestCheck has a place's text by text, each with an @ at the name that is wrong, and what that is about; nothing, if nothing is wrong.
func TestCheck(t *testing.T) {
	for _, x := range [][2]string{
		{``, ``},
		{`locals { a = [var.v, local.l, local.a, disk.d, disk.d.what.not, node.n, note.t, rule.r] }`, ``},
		{`variable "a" { default = @var.v }`, `var`},
		{`variable "a" { default = [1, @local.l] }`, `local`},
		{`variable "a" { default = @disk.d }`, `disk`},
		{`variable "a" { default = @x }`, `x`},
		{`variable "a" { default = @self.id }`, `self`},
		{`variable "a" { default = @each.key }`, `each`},
		{`variable "a" { default = @count.index }`, `count`},
		{`variable "a" { default = [for v in [1] : v] }`, ``},
		{`locals { a = @x }`, `x`},
		{`locals { a = @x.y }`, `x`},
		{`locals { a = @var }`, `var`},
		{`locals { a = @var[0].v }`, `var`},
		{`locals { a = @local }`, `local`},
		{`locals { a = @disk }`, `disk`},
		{`locals { a = @disk["d"] }`, `disk`},
		{`locals { a = f(@disk) }`, `disk`},
		{`locals { a = @var.w }`, `var.w`},
		{`locals { a = @var.l }`, `var.l`},
		{`locals { a = @local.v }`, `local.v`},
		{`locals { a = @disk.n.id }`, `disk.n`},
		{`locals { a = @node.d }`, `node.d`},
		{`locals { a = @self.id }`, `self`},
		{`locals { a = @each.key }`, `each`},
		{`locals { a = @count.index }`, `count`},
		{`locals { a = [for var in [1] : var] }`, ``},
		{`locals { a = [for x in @x : x] }`, `x`},
		{`locals { a = [for each, count in [1] : [each.z, count.z]] }`, ``},
		{`output "o" { value = [var.v, local.l, note.t] }`, ``},
		{`output "o" { value = @note.n.id }`, `note.n`},
		{`output "o" { value = @self.id }`, `self`},
		{`output "o" { value = @each.key }`, `each`},
		{`output "o" { value = @count.index }`, `count`},
		{"check \"c\" {\n if = var.v\n say = local.l\n}", ``},
		{"check \"c\" {\n if = @self.id\n say = y\n}", `self`},
		{"check \"c\" {\n if = 1\n say = @each.value\n}", `each`},
		{"check \"c\" {\n if = 1\n say = @count\n}", `count`},
		{"check \"c\" {\n if = 1\n say = @rule.t\n}", `rule.t`},
	} {
		for _, s := range []string{x[0] + around, around + x[0], around + x[0] + "\ncheck \"last\" { if = z }"} {
			c, at := read(t, s)
			want := api.Diag{Code: api.ErrName, Pos: at, What: x[1]}
			if x[1] == "" {
				want = api.Diag{}
				if strings.HasSuffix(s, "z }") {
					want = api.Diag{Code: api.ErrName, Pos: end(s), What: "z"}
				}
			}
			if d := Check(c); d != want {
				t.Errorf("%s: %v, want %v", s, d, want)
			}
		}
	}
}

// end is the place of the text's last name.
func end(s string) api.Pos {
	at := len(s) - 3
	return api.Pos{At: at, Line: 1 + strings.Count(s, "\n"), Col: at - strings.LastIndex(s, "\n")}
}

// TestCheckResource has what stands in a resource of the type disk.
func TestCheckResource(t *testing.T) {
	for _, x := range [][2]string{
		{`label = [var.v, local.l, node.n, disk.mine]`, ``},
		{`label = @each.key`, `each`},
		{`label = @each`, `each`},
		{`label = @count.index`, `count`},
		{`label = @self.id`, `self`},
		{`label = @var.x`, `var.x`},
		{`label = @local.v`, `local.v`},
		{`label = @thing.v`, `thing`},
		{"count = 1\nlabel = count.index", ``},
		{"label = count.index\ncount = 1", ``},
		{"count = 1\nlabel = @count.key", `count.key`},
		{"count = 1\nlabel = @count", `count`},
		{"count = 1\nlabel = @count[0]", `count`},
		{"count = 1\nlabel = @each.key", `each`},
		{"count = 1\nlabel = @self.id", `self`},
		{"count = @count.index", `count`},
		{"count = @each.key", `each`},
		{"count = @self.id", `self`},
		{"count = [var.v, local.l, node.n]", ``},
		{"count = @node.d", `node.d`},
		{"count = @var.l", `var.l`},
		{"for_each = 1\nlabel = [each.key, each.value, each.value.x]", ``},
		{"for_each = 1\nlabel = @each.index", `each.index`},
		{"for_each = 1\nlabel = @each", `each`},
		{"for_each = 1\nlabel = @count.index", `count`},
		{"for_each = @each.key", `each`},
		{"for_each = @count.index", `count`},
		{"for_each = @self.size", `self`},
		{"for_each = [var.v, local.l, node.n]", ``},
		{"for_each = @local.n", `local.n`},
		{"precondition { if = [var.v, local.l, rule.r] }", ``},
		{"precondition { if = @self.id }", `self`},
		{"precondition { if = @each.key }", `each`},
		{"precondition { if = @count.index }", `count`},
		{"precondition {\nif = 1\nsay = @self.id }", `self`},
		{"precondition {\nif = 1\nsay = @var.l }", `var.l`},
		{"for_each = 1\nprecondition {\nif = each.key\nsay = each.value }", ``},
		{"for_each = 1\nprecondition {\nif = each.key\nsay = @each.x }", `each.x`},
		{"for_each = 1\nprecondition { if = @count.index }", `count`},
		{"count = 1\nprecondition {\nif = count.index\nsay = count.index }", ``},
		{"count = 1\nprecondition { if = @each.key }", `each`},
		{"postcondition { if = [self.id, self.kind, self.label, self.serial, self.size, var.v, local.l, note.t] }", ``},
		{"postcondition { if = @self.text }", `self.text`},
		{"postcondition { if = @self.image }", `self.image`},
		{"postcondition { if = @self }", `self`},
		{"postcondition { if = @self[\"id\"] }", `self`},
		{"postcondition {\nif = self.size\nsay = @self.what }", `self.what`},
		{"postcondition {\nif = self.size\nsay = self.label }", ``},
		{"postcondition { if = @each.key }", `each`},
		{"postcondition { if = @count.index }", `count`},
		{"count = 1\npostcondition {\nif = count.index\nsay = @count.what }", `count.what`},
		{"for_each = 1\npostcondition {\nif = each.value\nsay = @each.what }", `each.what`},
		{"for_each = 1\npostcondition { if = @count.index }", `count`},
		{"postcondition { if = [for self in 1 : self.x] }", ``},
	} {
		s := around + "resource \"disk\" \"mine\" {\nsize = 1\n" + x[0] + "\n}\n"
		c, at := read(t, s)
		want := api.Diag{Code: api.ErrName, Pos: at, What: x[1]}
		if x[1] == "" {
			want = api.Diag{}
		}
		if d := Check(c); d != want {
			t.Errorf("%s: %v, want %v", s, d, want)
		}
	}
}

// TestCheckFirst has texts in which much is wrong; what is first hangs on the kinds of the places, and on their order, not on where they stand.
func TestCheckFirst(t *testing.T) {
	wrong := []string{
		"variable \"a\" { default = @v1 }",
		"variable \"b\" { default = @v2 }",
		"locals { a = @l1 }",
		"locals { b = @l2 }",
		"resource \"note\" \"a\" {\nprecondition {\nif = 1\nsay = 2 }\ntext = @r1\nmeta = r2 }",
		"resource \"note\" \"b\" {\npostcondition {\nif = @p1\nsay = p2 }\nprecondition {\nif = 1\nsay = 2 } }",
		"resource \"note\" \"c\" {\npostcondition {\nif = p1\nsay = p2 }\nprecondition {\nif = 1\nsay = @p3 } }",
		"resource \"note\" \"d\" {\npostcondition {\nif = 1\nsay = @p2 }\npostcondition {\nif = p3\nsay = p4 } }",
		"resource \"note\" \"e\" {\nprecondition {\nif = @p2\nsay = p3 }\nprecondition {\nif = p4\nsay = p5 } }",
		"resource \"note\" \"f\" {\ntext = f1\ncount = @c1 }",
		"resource \"note\" \"g\" {\npostcondition { if = p1 }\nprecondition { if = p2 }\ntext = f1\nfor_each = @e1 }",
		"resource \"note\" \"h\" {\npostcondition { if = p1 }\nprecondition { if = p2 }\nmeta = @f2\ntext = f1\n}",
		"output \"a\" { value = @o1 }",
		"output \"b\" { value = @o2 }",
		"check \"a\" {\nsay = s1\nif = @i1 }",
		"check \"b\" {\nsay = @s2\nif = 1 }",
	}
	for i := range wrong {
		// What stands behind it in their order stands ahead of it in the text, where it may.
		for j := i; j < len(wrong); j++ {
			s := wrong[i]
			if i != j {
				s = strings.Replace(wrong[j], "@", "", 1) + "\n" + s
			}
			if i != j && kind(wrong[i]) == kind(wrong[j]) {
				s = wrong[i] + "\n" + strings.Replace(wrong[j], "@", "", 1)
			}
			c, at := read(t, s)
			_, what, _ := strings.Cut(wrong[i], "@")
			if d := Check(c); d != (api.Diag{Code: api.ErrName, Pos: at, What: what[:2]}) {
				t.Errorf("%s: %v", s, d)
			}
		}
	}
}

func kind(s string) string { return s[:3] }

// TestCheckLeft has expressions in which two names are wrong: the left one is told.
func TestCheckLeft(t *testing.T) {
	for _, s := range []string{
		"@x + y", "@x.a.b + y", "(local.a + @x) * y", "local.a[@x][y]", "@x[y]", "f(local.a, @x, y)", "[1, @x, y]", "{ a = @x, b = y }", "{ a = 1, b = @x.z, c = y }",
		"@x ? y : z", "1 ? @x : y", "\"a${@x}b${y}\"", "[for v in @x : y]", "[for v in 1 : @x if y]", "[for v in 1 : v if @x]", "{for v in @x : y => z if u}", "{for v in 1 : @x => y if z}",
		"{for v in 1 : 2 => @x if y}", "{for v in 1 : 2 => 3 if @x}", "[for x in @x : x]", "[for x in 1 : x] == @x", "!@x && y", "-@x < y", "[for v in [for x in 1 : @v] : x]",
	} {
		text := "locals { a = " + s + " }"
		c, at := read(t, text)
		what := "x"
		if strings.Contains(s, "@v") {
			what = "v"
		}
		if d := Check(c); d != (api.Diag{Code: api.ErrName, Pos: at, What: what}) {
			t.Errorf("%s: %v", text, d)
		}
	}
}

func TestLocals(t *testing.T) {
	for _, x := range []struct {
		text string
		want []int
		e    api.Errno
	}{
		{``, nil, api.OK},
		{`a = 1`, []int{0}, api.OK},
		{"a = 1\nb = 2\nc = 3", []int{0, 1, 2}, api.OK},
		{"a = local.b\nb = 1", []int{1, 0}, api.OK},
		{"a = local.c\nb = 1\nc = 2", []int{1, 2, 0}, api.OK},
		{"a = local.b\nb = local.c\nc = 1", []int{2, 1, 0}, api.OK},
		{"a = local.d\nb = 1\nc = local.b\nd = local.c\ne = 1", []int{1, 2, 3, 0, 4}, api.OK},
		{"a = local.e\nb = local.d\nc = 1\nd = local.c\ne = 1", []int{2, 3, 1, 4, 0}, api.OK},
		{"a = [local.b, local.c]\nb = 1\nc = 1", []int{1, 2, 0}, api.OK},
		{"a = local.b + local.b\nb = local.c.x[local.c]\nc = 1", []int{2, 1, 0}, api.OK},
		{"a = [for x in local.c : local.b]\nb = 1\nc = 1", []int{1, 2, 0}, api.OK},
		// A local that a for binds is none, nor is what isn't declared, nor is anything of another root.
		{"a = [for local in 1 : local.b]\nb = local.a", []int{0, 1}, api.OK},
		{"a = local.z\nb = local.y", []int{0, 1}, api.OK},
		{"a = var.b\nb = disk.a", []int{0, 1}, api.OK},
		{"a = local\nb = local[0].a", []int{0, 1}, api.OK},
		{"a = local.b.a\nb = b.a", []int{1, 0}, api.OK},
		{`a = local.a`, nil, api.ErrCycle},
		{"a = 1\nb = [1, \"${local.b.x}\"]\nc = 2", nil, api.ErrCycle},
		{"a = local.b\nb = local.a", nil, api.ErrCycle},
		{"x = 1\na = local.b\nb = local.c\nc = local.a\ny = local.a", nil, api.ErrCycle},
		{"a = local.b\nb = local.c\nc = local.d\nd = local.c", nil, api.ErrCycle},
		{"a = [for x in local.a : x]", nil, api.ErrCycle},
	} {
		c, _ := read(t, "locals {\n"+x.text+"\n}")
		l, e := Locals(c)
		if e != x.e || !slices.Equal(l, x.want) {
			t.Errorf("%s: %v %d", x.text, l, e)
		}
	}
	// They may stand in several blocks.
	c, _ := read(t, "locals { a = local.c }\nlocals {\n b = 1\n c = local.b }\nlocals { d = 1 }")
	if l, e := Locals(c); e != api.OK || !slices.Equal(l, []int{1, 2, 0, 3}) {
		t.Error(l, e)
	}
}

// TestHangs has a resource's text, and on which of the others it hangs.
func TestHangs(t *testing.T) {
	others := `
locals {
	none = var.v
	d = disk.d.id
	n = [local.d, node.n]
	far = local.near
	near = local.nearer
	nearer = rule.r
	loop = [local.pool, disk.d]
	pool = [local.loop, note.t]
	me = note.me.id
}
variable "v" {}
resource "disk" "d" { size = node.n }
resource "node" "n" { image = "i" }
resource "note" "t" {}
resource "rule" "r" { from = "f" }
`
	for _, x := range []struct {
		text string
		want string
	}{
		{``, ``},
		{`text = "disk.d"`, ``},
		{`text = disk.d.id`, `d`},
		{`text = disk.d`, `d`},
		{"text = node.n.id\nmeta = disk.d.id", `dn`},
		{`text = [rule.r, note.t, node.n, disk.d, rule.r.x]`, `dntr`},
		{`text = [disk, node[0], disk.n, node.d, note.z, x.d]`, ``},
		{`text = [for disk in 1 : disk.d]`, ``},
		{`text = [for d in disk.d : d]`, `d`},
		{`count = disk.d.size`, `d`},
		{`for_each = node.n.tags`, `n`},
		{`precondition { if = rule.r.to }`, `r`},
		{"precondition {\nif = 1\nsay = rule.r.to }", `r`},
		{`postcondition { if = rule.r.to }`, `r`},
		{"postcondition {\nif = self.id\nsay = rule.r.to }", `r`},
		{`depends_on = ["disk.d"]`, `d`},
		{`depends_on = ["rule.r", "node.n", "rule.r"]`, `nr`},
		{`lifecycle { replace_triggered_by = ["note.t", "disk.d"] }`, `dt`},
		{"text = node.n\ndepends_on = [\"disk.d\"]\nlifecycle { replace_triggered_by = [\"node.n\"] }", `dn`},
		{`text = local.none`, ``},
		{`text = local.d`, `d`},
		{`text = local.n`, `dn`},
		{`text = local.far`, `r`},
		{`text = [local.far, local.n, local.near]`, `dnr`},
		{`text = local.loop`, `dt`},
		{`text = local.pool`, `dt`},
		{`text = [local.z, local]`, ``},
		{`text = [for local in 1 : local.d]`, ``},
		{`count = local.d`, `d`},
		{`postcondition { if = local.nearer }`, `r`},
		{`text = note.me.id`, `m`},
		{`text = [note.me.id, disk.d]`, `dm`},
		{`depends_on = ["note.me"]`, `m`},
		{`lifecycle { replace_triggered_by = ["note.me"] }`, `m`},
		{`text = local.me`, `m`},
		{"text = text(disk.d.size)\nlifecycle { ignore_changes = [\"text\"] }", `d`},
	} {
		c, _ := read(t, others+"resource \"note\" \"me\" {\n"+x.text+"\n}")
		if s := letters(Hangs(c, 4), "dntrm"); s != x.want {
			t.Errorf("%s: %s, want %s", x.text, s, x.want)
		}
		if l := letters(Hangs(c, 0), "dntrm"); l != "n" {
			t.Error(l)
		}
		for _, i := range []int{-1, -1 << 63, 5, 6, 1<<63 - 1} {
			if l := Hangs(c, i); len(l) != 0 {
				t.Error(i, l)
			}
		}
	}
	if l := Hangs(api.Config{}, 0); len(l) != 0 {
		t.Error(l)
	}
}

// letters has places as the letters of a text.
func letters(l []int, of string) string {
	var s string
	for _, i := range l {
		s += of[i : i+1]
	}
	return s
}
