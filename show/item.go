package show

import (
	"strings"

	"surety/api"
	"surety/conf"
	"surety/expr"
	"surety/lex"
)

// mostLabels is how many labels a block has at most.
const mostLabels = 4

// areItems tells whether l, a whole text, may be printed.
func areItems(l []api.Item) bool { return conf.Depth(l) <= api.MaxDepth && isBody(l) }

// isBody tells whether l may be all items of a block.
func isBody(l []api.Item) bool {
	if len(l) > api.MaxItems {
		return false
	}
	met := map[string]struct{}{}
	for _, x := range l {
		if !isName(x.Name) || !isItem(x) {
			return false
		}
		if x.Block {
			continue
		}
		if _, twice := met[x.Name]; twice {
			return false
		}
		met[x.Name] = struct{}{}
	}
	return true
}

// isItem tells whether x has what an attribute, or a block, has, and nothing else.
func isItem(x api.Item) bool {
	if !x.Block {
		return len(x.Labels) == 0 && len(x.Items) == 0 && isTree(x.E, spot{})
	}
	return expr.Same(x.E, api.Expr{}) && areLabels(x.Labels) && isBody(x.Items)
}

func areLabels(l []string) bool {
	for _, s := range l {
		if len(s) > api.MaxStr {
			return false
		}
	}
	return len(l) <= mostLabels
}

// liner prints lines of items that may be printed.
type liner struct {
	printer
	around int
}

// begin prints the beginning of a line, and what stands first in it.
func (p *liner) begin(s string) { p.put(strings.Repeat("  ", p.around) + s) }

func (p *liner) items(l []api.Item) {
	for _, x := range l {
		p.begin(x.Name)
		if x.Block {
			p.block(x)
		} else {
			p.put(" = ")
			p.tree(x.E)
		}
		p.put("\n")
	}
}

// block prints what stands behind a block's name.
func (p *liner) block(x api.Item) {
	for _, s := range x.Labels {
		p.put(" " + lex.Quote(s))
	}
	p.put(" {\n")
	p.around++
	p.items(x.Items)
	p.around--
	p.begin("}")
}
