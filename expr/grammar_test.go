package expr

import (
	"math/rand"
	"strconv"
	"strings"
	"testing"

	"surety/api"
	"surety/lex"
	"surety/value"
)

// rules is the chapter's grammar, each rule in a line: what it is of, and its parts. Of words that aren't rules, name is a name that isn't reserved, any one that may be, num a number, str a string; others are themselves.
const rules = `
all or
all or ? all : all
or and
or or || and
and cmp
and and && cmp
cmp sum
cmp sum == sum
cmp sum != sum
cmp sum < sum
cmp sum <= sum
cmp sum > sum
cmp sum >= sum
sum term
sum sum + term
sum sum - term
term unary
term term * unary
term term / unary
term term % unary
unary ! unary
unary - unary
unary post
post first
post post . any
post post [ all ]
first num
first str
first true
first false
first null
first name
first name ( )
first name ( exprs )
first ( all )
first [ ]
first [ exprs ]
first { }
first { pairs }
first [ loop : all ]
first [ loop : all if all ]
first { loop : all => all }
first { loop : all => all if all }
exprs row
exprs row ,
row all
row row , all
pairs many
pairs many ,
many pair
many many , pair
pair key = all
pair key : all
key any
key str
loop for name in all
loop for name , name in all
`

// item is a rule of which some parts have been met, from a place on.
type item struct{ rule, met, from int }

// chart knows, of tokens that may begin an expression, which rules they have met, at each place.
type chart struct {
	rules [][]string
	of    map[string][]int
	sets  [][]item
}

func newChart() *chart {
	c := &chart{of: map[string][]int{}}
	for _, line := range strings.Split(strings.TrimSpace(rules), "\n") {
		rule := strings.Fields(line)
		c.of[rule[0]] = append(c.of[rule[0]], len(c.rules))
		c.rules = append(c.rules, rule)
	}
	var first []item
	for _, r := range c.of["all"] {
		first = append(first, item{r, 0, 0})
	}
	c.sets = [][]item{c.closed(first, 0)}
	return c
}

// next is what an item has next, or nothing.
func (c *chart) next(x item) string {
	if r := c.rules[x.rule]; x.met+1 < len(r) {
		return r[x.met+1]
	}
	return ""
}

// closed is a set of items at a place, with all that follows of them.
func (c *chart) closed(set []item, at int) []item {
	seen := map[item]int{}
	put := func(x item) {
		if seen[x]++; seen[x] == 1 {
			set = append(set, x)
		}
	}
	first := set
	set = nil
	for _, x := range first {
		put(x)
	}
	for i := 0; i < len(set); i++ {
		x := set[i]
		if n := c.next(x); n != "" {
			for _, r := range c.of[n] {
				put(item{r, 0, at})
			}
			continue
		}
		for _, y := range c.sets[x.from] {
			if c.next(y) == c.rules[x.rule][0] {
				put(item{y.rule, y.met + 1, y.from})
			}
		}
	}
	return set
}

// takes adds a token, if an expression can go on with it.
func (c *chart) takes(tok string) bool {
	var met []item
	for _, x := range c.sets[len(c.sets)-1] {
		if n := c.next(x); n != "" && c.of[n] == nil && stands(n, tok) {
			met = append(met, item{x.rule, x.met + 1, x.from})
		}
	}
	if met == nil {
		return false
	}
	c.sets = append(c.sets, c.closed(met, len(c.sets)))
	return true
}

func (c *chart) back() { c.sets = c.sets[:len(c.sets)-1] }

// complete tells whether all tokens are an expression.
func (c *chart) complete() bool {
	for _, x := range c.sets[len(c.sets)-1] {
		if x.from == 0 && c.next(x) == "" && c.rules[x.rule][0] == "all" {
			return true
		}
	}
	return false
}

// stands tells whether a token is what a rule's word means.
func stands(word, tok string) bool {
	isWord := strings.Trim(tok, "abcdefghijklmnopqrstuvwxyz") == ""
	switch word {
	case "num":
		return tok[0] >= '0' && tok[0] <= '9'
	case "str":
		return tok[0] == '"'
	case "any":
		return isWord
	case "name":
		return isWord && !strings.Contains(" true false null for in if ", " "+tok+" ")
	}
	return word == tok
}

// agree holds that Parse and Read tell of tokens, and of those with each other one behind, what the grammar does.
func (c *chart) agree(t *testing.T, row, toks []string) {
	t.Helper()
	s := strings.Join(row, " ")
	complete := c.complete()
	checkRow(t, s, len(row), complete, complete, len(s))
	for _, tok := range toks {
		if c.takes(tok) {
			c.back()
			continue
		}
		at := len(s) + 1
		if s == "" {
			at = 0
		}
		checkRow(t, strings.TrimPrefix(s+" "+tok, " "), len(row), false, complete, at)
	}
}

// checkRow holds whether all of s is an expression; whether so many of its first tokens are, and nothing goes on behind them; and if not, where it is told.
func checkRow(t *testing.T, s string, n int, all, first bool, at int) {
	t.Helper()
	want := api.Diag{Code: api.ErrForm, Pos: lex.At(s, at)}
	e, d := Parse(s)
	if all && (d != (api.Diag{}) || e.Op == 0) || !all && (d != want || !isZero(e)) {
		t.Errorf("Parse(%q) = %s, %v; want all: %v, else %v", s, brief(e), d, all, want)
	}
	l, _ := lex.All(s)
	e, next, d := Read(l, 0)
	if first && (d != (api.Diag{}) || e.Op == 0 || next != n) || !first && (d != want || !isZero(e) || next != 0) {
		t.Errorf("Read(%q) = %s, %d, %v; want %v, %d, else %v", s, brief(e), next, d, first, n, want)
	}
}

// P8.1: each row of a few tokens, held against the chapter's grammar.
func TestShortRows(t *testing.T) {
	toks := strings.Fields(`a 1 "s" true for in if ( ) [ ] { } , . : = => ? ! - * < &&`)
	c := newChart()
	var walk func(row []string)
	walk = func(row []string) {
		c.agree(t, row, toks)
		if len(row) == 4 || t.Failed() {
			return
		}
		for _, tok := range toks {
			if c.takes(tok) {
				walk(append(row, tok))
				c.back()
			}
		}
	}
	walk(nil)
}

// P8.1: longer rows of tokens, each held against the chapter's grammar as it grows.
func TestLongRows(t *testing.T) {
	r := rand.New(rand.NewSource(8))
	toks := strings.Fields(`a b 1 "s" true false null for for in in in if if ( ) [ ] { } , . : = => => ? ! - + * / % < <= > >= == != && ||`)
	for range 150 {
		c := newChart()
		var row []string
		for len(row) < 25 && !t.Failed() {
			if tok := toks[r.Intn(len(toks))]; c.takes(tok) {
				row = append(row, tok)
				c.agree(t, row, toks)
			}
		}
	}
}

// The levels of the grammar, for the printer.
const (
	condIs = iota
	orIs
	andIs
	cmpIs
	sumIs
	termIs
	unaryIs
	postIs
)

// printer prints trees in any of the ways in which they may stand.
type printer struct {
	r *rand.Rand
	// plain: no brackets but where they must stand.
	plain bool
}

func (p *printer) blank() string {
	if p.plain {
		return " "
	}
	return []string{" ", "\n", "\t ", "  ", " # c\n"}[p.r.Intn(5)]
}

// at prints e where no looser level may stand.
func (p *printer) at(e api.Expr, level int) string {
	s, is := p.print(e)
	for is < level || !p.plain && p.r.Intn(4) == 0 {
		s = "(" + p.blank() + s + ")"
		is = postIs
	}
	return s
}

func (p *printer) row(l []api.Expr) string {
	var b strings.Builder
	for i, e := range l {
		if i > 0 {
			b.WriteString("," + p.blank())
		}
		b.WriteString(p.at(e, condIs))
	}
	if len(l) > 0 && p.r.Intn(3) == 0 {
		b.WriteString(",")
	}
	return b.String()
}

func (p *printer) pairs(l []api.Expr) string {
	var b strings.Builder
	for i := 0; i < len(l); i += 2 {
		if i > 0 {
			b.WriteString("," + p.blank())
		}
		key, _ := p.print(l[i])
		if s := l[i].V.S; l[i].Op == api.ExLit && s != "" && strings.Trim(s, "abcdefghijklmnopqrstuvwxyz") == "" && p.r.Intn(2) == 0 {
			key = s
		}
		b.WriteString(key + p.blank() + []string{"=", ":"}[p.r.Intn(2)] + p.at(l[i+1], condIs))
	}
	if len(l) > 0 && p.r.Intn(3) == 0 {
		b.WriteString(",")
	}
	return b.String()
}

func (p *printer) loop(e api.Expr) string {
	s := "for" + p.blank()
	if e.S2 != "" {
		s += e.S2 + ","
	}
	s += e.S + p.blank() + "in" + p.blank() + p.at(e.L[0], condIs) + ":" + p.at(e.L[1], condIs)
	rest := e.L[2:]
	if e.Op == api.ExForMap {
		s += "=>" + p.at(rest[0], condIs)
		rest = rest[1:]
	}
	if len(rest) > 0 {
		s += p.blank() + "if" + p.blank() + p.at(rest[0], condIs)
	}
	return s
}

func (p *printer) text(e api.Expr) string {
	s := `"`
	inner := printer{p.r, true}
	for _, part := range e.L {
		if part.Op == api.ExLit && part.V.Kind == api.VStr {
			q := lex.Quote(part.V.S)
			s += q[1 : len(q)-1]
		} else {
			s += "${" + inner.at(part, condIs) + "}"
		}
	}
	return s + `"`
}

// print is e's text, and its level.
func (p *printer) print(e api.Expr) (string, int) {
	for i, row := range levelsInTest {
		for _, x := range row {
			if x.op == e.Op {
				level := orIs + i
				left := level
				if level == cmpIs {
					left++
				}
				return p.at(e.L[0], left) + p.blank() + x.sign + p.blank() + p.at(e.L[1], level+1), level
			}
		}
	}
	switch e.Op {
	case api.ExLit:
		switch e.V.Kind {
		case api.VNull:
			return "null", postIs
		case api.VBool:
			return []string{"false", "true"}[e.V.I], postIs
		case api.VInt:
			return strconv.FormatInt(e.V.I, 10), postIs
		}
		return lex.Quote(e.V.S), postIs
	case api.ExName:
		return e.S, postIs
	case api.ExAttr:
		return p.at(e.L[0], postIs) + p.blank() + "." + e.S, postIs
	case api.ExIndex:
		return p.at(e.L[0], postIs) + p.blank() + "[" + p.at(e.L[1], condIs) + "]", postIs
	case api.ExCall:
		return e.S + p.blank() + "(" + p.row(e.L) + ")", postIs
	case api.ExNot:
		return "!" + p.at(e.L[0], unaryIs), unaryIs
	case api.ExNeg:
		return "-" + p.at(e.L[0], unaryIs), unaryIs
	case api.ExCond:
		return p.at(e.L[0], orIs) + "?" + p.at(e.L[1], condIs) + ":" + p.at(e.L[2], condIs), condIs
	case api.ExList:
		return "[" + p.row(e.L) + "]", postIs
	case api.ExMap:
		return "{" + p.pairs(e.L) + "}", postIs
	case api.ExForList:
		return "[" + p.loop(e) + "]", postIs
	case api.ExForMap:
		return "{" + p.loop(e) + "}", postIs
	}
	return p.text(e), postIs
}

// grower makes trees, of which those in strings have no strings and no maps in them.
type grower struct{ r *rand.Rand }

func (g *grower) name() string { return []string{"a", "b", "forx", "id"}[g.r.Intn(4)] }

func (g *grower) some(n, depth int, inText bool) []api.Expr {
	var l []api.Expr
	for range n {
		l = append(l, g.grow(depth-1, inText))
	}
	return l
}

func (g *grower) leaf(inText bool) api.Expr {
	switch g.r.Intn(5) {
	case 0:
		return api.Expr{Op: api.ExLit}
	case 1:
		return api.Expr{Op: api.ExLit, V: value.Bool(g.r.Intn(2) == 0)}
	case 2:
		return api.Expr{Op: api.ExLit, V: value.Int(g.r.Int63n(50))}
	case 3:
		if !inText {
			return api.Expr{Op: api.ExLit, V: value.Str([]string{"", "x", "if", "a b", "\"${\n", "\\$"}[g.r.Intn(6)])}
		}
	}
	return api.Expr{Op: api.ExName, S: g.name()}
}

func (g *grower) key(depth int) api.Expr {
	if g.r.Intn(3) == 0 && depth > 1 {
		return g.text(depth - 1)
	}
	return api.Expr{Op: api.ExLit, V: value.Str([]string{"", "for", "true", "a", "a.b", "k"}[g.r.Intn(6)])}
}

// text is a string in which an expression stands.
func (g *grower) text(depth int) api.Expr {
	e := api.Expr{Op: api.ExText}
	for i := range 1 + g.r.Intn(3) {
		if g.r.Intn(2) == 0 {
			e.L = append(e.L, api.Expr{Op: api.ExLit, V: value.Str([]string{"x", "$", "\n}", "\\\"", "{"}[g.r.Intn(5)])})
		}
		e.L = append(e.L, g.grow(depth-1, true))
		if i == 2 {
			e.L = append(e.L, api.Expr{Op: api.ExLit, V: value.Str("end")})
		}
	}
	return e
}

func (g *grower) grow(depth int, inText bool) api.Expr {
	if depth <= 1 || g.r.Intn(8) == 0 {
		return g.leaf(inText)
	}
	e := api.Expr{Op: api.ExName + g.r.Intn(api.ExText-api.ExName+1)}
	switch e.Op {
	case api.ExName:
		e.S = g.name()
	case api.ExAttr:
		e.S = []string{"id", "if", "null"}[g.r.Intn(3)]
		e.L = g.some(1, depth, inText)
	case api.ExNot, api.ExNeg:
		e.L = g.some(1, depth, inText)
	case api.ExCall:
		e.S = g.name()
		e.L = g.some(g.r.Intn(4), depth, inText)
	case api.ExList:
		e.L = g.some(g.r.Intn(4), depth, inText)
	case api.ExCond:
		e.L = g.some(3, depth, inText)
	case api.ExForList, api.ExForMap, api.ExMap, api.ExText:
		return g.growBraces(e, depth, inText)
	default:
		e.L = g.some(2, depth, inText)
	}
	return e
}

func (g *grower) growBraces(e api.Expr, depth int, inText bool) api.Expr {
	if inText && e.Op != api.ExForList {
		return g.leaf(true)
	}
	switch e.Op {
	case api.ExText:
		return g.text(depth)
	case api.ExMap:
		for range g.r.Intn(3) {
			e.L = append(e.L, g.key(depth-1), g.grow(depth-1, false))
		}
		return e
	}
	e.S = g.name()
	if g.r.Intn(2) == 0 {
		e.S2 = g.name()
	}
	parts := 2 + e.Op - api.ExForList
	e.L = g.some(parts+g.r.Intn(2), depth, inText)
	return e
}

// P8.1: trees of all kinds, printed with as few brackets as may be, and with more, are read as they were.
func TestPrinted(t *testing.T) {
	r := rand.New(rand.NewSource(88))
	g := grower{r}
	met := map[int]int{}
	var count func(e api.Expr)
	count = func(e api.Expr) {
		met[e.Op]++
		for _, p := range e.L {
			count(p)
		}
	}
	for i := range 30000 {
		want := g.grow(1+r.Intn(7), false)
		p := printer{r, i%2 == 0}
		s := p.at(want, condIs)
		_, d := lex.All(s)
		if d.Code == api.ErrLong { // a string, or the text, is too long
			continue
		}
		e, d := Parse(s)
		if d != (api.Diag{}) || !Same(e, want) {
			t.Fatalf("Parse(%q) = %s, %v; want %s", s, brief(e), d, brief(want))
		}
		placed(t, s, e)
		count(e)
	}
	for op := api.ExLit; op <= api.ExText; op++ {
		if met[op] < 500 {
			t.Errorf("%s: %d trees", kinds[op], met[op])
		}
	}
}
