package show

import "surety/api"

// The levels of trees, and of the places in which parts stand, the loosest first.
const (
	anyLevel = iota
	orLevel
	andLevel
	cmpLevel
	sumLevel
	termLevel
	aheadLevel
	closeLevel
)

// sign is what stands between two operands, or ahead of one: its text, the level of its tree, and those of its operands' places.
type sign struct {
	text               string
	level, left, right int
}

// signs has the sign of each kind of tree that has one. A first operand may be of its tree's own level, as equal ones are read from the first on; but comparisons don't stand in one another.
var signs = [api.ExText + 1]sign{
	api.ExOr:  {" || ", orLevel, orLevel, andLevel},
	api.ExAnd: {" && ", andLevel, andLevel, cmpLevel},
	api.ExEq:  {" == ", cmpLevel, sumLevel, sumLevel},
	api.ExNe:  {" != ", cmpLevel, sumLevel, sumLevel},
	api.ExLt:  {" < ", cmpLevel, sumLevel, sumLevel},
	api.ExLe:  {" <= ", cmpLevel, sumLevel, sumLevel},
	api.ExGt:  {" > ", cmpLevel, sumLevel, sumLevel},
	api.ExGe:  {" >= ", cmpLevel, sumLevel, sumLevel},
	api.ExAdd: {" + ", sumLevel, sumLevel, termLevel},
	api.ExSub: {" - ", sumLevel, sumLevel, termLevel},
	api.ExMul: {" * ", termLevel, termLevel, aheadLevel},
	api.ExDiv: {" / ", termLevel, termLevel, aheadLevel},
	api.ExMod: {" % ", termLevel, termLevel, aheadLevel},
	api.ExNot: {text: "!", level: aheadLevel, right: aheadLevel},
	api.ExNeg: {text: "-", level: aheadLevel, right: aheadLevel},
}

// levelOf is the level of a tree of a kind. What has no sign ends in itself, so it stands anywhere; but a condition goes on as far as it can.
func levelOf(op int) int {
	switch {
	case op == api.ExCond:
		return anyLevel
	case signs[op].text == "":
		return closeLevel
	}
	return signs[op].level
}
