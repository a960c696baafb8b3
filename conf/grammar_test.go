package conf

import (
	"fmt"
	"math/rand"
	"strings"
	"testing"

	"surety/api"
	"surety/lex"
)

// rules is the chapter's grammar, with as much of layer 8's as the tokens below need, each rule in a line: what it is of, and its parts. Of words that aren't rules, any is a name, name one that isn't reserved, num a number, str a string, label one without expressions; others are themselves.
const rules = `
items item
items items item
item any = expr
item any { }
item any { items }
item any labels { }
item any labels { items }
labels label
labels label label
labels label label label
labels label label label label
expr sum
sum unary
sum sum - unary
unary - unary
unary post
post first
post post . any
post post [ expr ]
first num
first str
first name
first name ( )
first name ( row )
first name ( row , )
first ( expr )
first [ ]
first [ row ]
first [ row , ]
first { }
first { pairs }
first { pairs , }
row expr
row row , expr
pairs pair
pairs pairs , pair
pair any = expr
pair str = expr
`

// kindsOfTokens are those that rows are made of: w stands for a name, r for a reserved one with which no expression begins, each another one than those ahead, so that no attribute's name stands twice.
const kindsOfTokens = `w r 1 "s" "${x}" = { } ( ) [ ] , . -`

// met is a rule of which some parts have been met, from a place on.
type met struct{ rule, parts, from int }

// chart knows, of tokens with which items may begin, which rules they have met, at each place.
type chart struct {
	rules [][]string
	of    map[string][]int
	sets  [][]met
}

func newChart() *chart {
	c := &chart{of: map[string][]int{}}
	for _, line := range strings.Split(strings.TrimSpace(rules), "\n") {
		rule := strings.Fields(line)
		c.of[rule[0]] = append(c.of[rule[0]], len(c.rules))
		c.rules = append(c.rules, rule)
	}
	var first []met
	for _, r := range c.of["items"] {
		first = append(first, met{r, 0, 0})
	}
	c.sets = [][]met{c.closed(first, 0)}
	return c
}

// next is what a rule has next, or nothing.
func (c *chart) next(x met) string {
	if r := c.rules[x.rule]; x.parts+1 < len(r) {
		return r[x.parts+1]
	}
	return ""
}

// closed is a set at a place, with all that follows of it.
func (c *chart) closed(first []met, at int) []met {
	var set []met
	seen := map[met]int{}
	put := func(x met) {
		if seen[x]++; seen[x] == 1 {
			set = append(set, x)
		}
	}
	for _, x := range first {
		put(x)
	}
	for i := 0; i < len(set); i++ {
		x := set[i]
		if n := c.next(x); n != "" {
			for _, r := range c.of[n] {
				put(met{r, 0, at})
			}
			continue
		}
		for _, y := range c.sets[x.from] {
			if c.next(y) == c.rules[x.rule][0] {
				put(met{y.rule, y.parts + 1, y.from})
			}
		}
	}
	return set
}

// takes adds a token, if items can go on with it.
func (c *chart) takes(tok string) bool {
	var first []met
	for _, x := range c.sets[len(c.sets)-1] {
		if n := c.next(x); n != "" && c.of[n] == nil && stands(n, tok) {
			first = append(first, met{x.rule, x.parts + 1, x.from})
		}
	}
	if first == nil {
		return false
	}
	c.sets = append(c.sets, c.closed(first, len(c.sets)))
	return true
}

func (c *chart) back() { c.sets = c.sets[:len(c.sets)-1] }

// complete tells whether all tokens are items.
func (c *chart) complete() bool {
	if len(c.sets) == 1 {
		return true
	}
	for _, x := range c.sets[len(c.sets)-1] {
		if x.from == 0 && c.next(x) == "" && c.rules[x.rule][0] == "items" {
			return true
		}
	}
	return false
}

// stands tells whether a token is what a rule's word means.
func stands(word, tok string) bool {
	switch word {
	case "any":
		return tok == "w" || tok == "r"
	case "name":
		return tok == "w"
	case "num":
		return tok == "1"
	case "str":
		return tok[0] == '"'
	case "label":
		return tok == `"s"`
	}
	return word == tok
}

// spelt is a row's text. It isn't ok if there are too few reserved names.
func spelt(row []string) (s string, ok bool) {
	reserved := []string{"in", "if"}
	for i, tok := range row {
		switch {
		case tok == "r" && len(reserved) == 0:
			return "", false
		case tok == "r":
			tok = reserved[0]
			reserved = reserved[1:]
		case tok == "w":
			tok = fmt.Sprint("w", i)
		}
		if i > 0 {
			s += " "
		}
		s += tok
	}
	return s, true
}

// full tells whether a row has as many reserved names as can be spelt.
func full(row []string) bool { return strings.Count(strings.Join(row, ""), "r") == 2 }

// agree holds that Read tells of tokens, and of those with each other one behind, what the grammar does.
func (c *chart) agree(t *testing.T, row []string) {
	t.Helper()
	s, ok := spelt(row)
	if !ok {
		return
	}
	l, d := Read(s)
	if complete := c.complete(); complete && (d != (api.Diag{}) || len(row) > 0 && len(l) == 0) {
		t.Errorf("Read(%q) = %s, %v", s, brief(l), d)
	} else if !complete {
		fails(t, s, api.ErrForm, len(s))
	}
	for _, tok := range strings.Fields(kindsOfTokens) {
		if c.takes(tok) {
			c.back()
			continue
		}
		e := api.ErrForm
		if tok == `"s"` && strings.HasSuffix(strings.Join(row, ""), `"s""s""s""s"`) {
			e = api.ErrLong
		}
		if longer, ok := spelt(append(row[:len(row):len(row)], tok)); ok {
			fails(t, longer, e, lastPlace(longer))
		}
	}
}

// lastPlace is where the last token of s stands.
func lastPlace(s string) int {
	l, _ := lex.All(s)
	return l[len(l)-2].Pos.At
}

// P9.1: each row of a few tokens, held against the chapter's grammar.
func TestShortRows(t *testing.T) {
	c := newChart()
	rows := 0
	var walk func(row []string)
	walk = func(row []string) {
		rows++
		c.agree(t, row)
		if len(row) == 7 || t.Failed() {
			return
		}
		for _, tok := range strings.Fields(kindsOfTokens) {
			if tok == "r" && full(row) {
				continue
			}
			if c.takes(tok) {
				walk(append(row[:len(row):len(row)], tok))
				c.back()
			}
		}
	}
	walk(nil)
	if rows < 20000 {
		t.Errorf("%d rows", rows)
	}
}

// P9.1: longer rows of tokens, each held against the chapter's grammar as it grows.
func TestLongRows(t *testing.T) {
	r := rand.New(rand.NewSource(19))
	toks := strings.Fields(kindsOfTokens + ` w w w = = { } } "s"`)
	ends := 0
	for range 300 {
		c := newChart()
		var row []string
		for len(row) < 30 && !t.Failed() {
			tok := toks[r.Intn(len(toks))]
			if tok == "r" && full(row) {
				continue
			}
			if c.takes(tok) {
				row = append(row, tok)
				c.agree(t, row)
			}
		}
		if c.complete() {
			ends++
		}
	}
	if ends == 0 {
		t.Error("no row was complete")
	}
}
