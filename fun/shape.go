package fun

import (
	"iter"
	"strings"

	"surety/api"
	"surety/typ"
	"surety/value"
)

// table has a line for each function, by their names: its name, the type that it answers, and those of its arguments; behind the last one .. says that there is any number of them.
const table = `abs int int
all bool list(bool)
any bool list(bool)
compact list list
concat list list ..
distinct list list
element any list int
ends bool str str
first any any ..
flatten list list
has bool any any
hash str str
index int list any
join str str list(str)
keys list(str) map
length int any
lookup any map str any
lower str str
max int int ..
merge map map ..
min int int ..
number int any
omit map map list(str)
one any list
pick map map list(str)
range list(int) int int
repeat str str int
replace str str str str
reverse list list
sign int int
slice list list int int
sort list(str) list(str)
split list(str) str str
starts bool str str
substr str str int int
sum int list(int)
text str any
trim str str
truth bool any
upper str str
values list map
zip map list(str) list`

// shape is what a function takes and answers; of one that takes any number, of has the one type that all of them are of.
type shape struct {
	answers api.Type
	of      []api.Type
	many    bool
}

// lines gives each function's name, and the rest of its line.
func lines() iter.Seq2[string, string] {
	return func(yield func(name, rest string) bool) {
		for line := range strings.SplitSeq(table, "\n") {
			if name, rest, _ := strings.Cut(line, " "); !yield(name, rest) {
				return
			}
		}
	}
}

// find is the shape of the function of that name; false: there is none.
func find(name string) (shape, bool) {
	for n, rest := range lines() {
		if n == name {
			return shapeOf(strings.Fields(rest)), true
		}
	}
	return shape{}, false
}

// shapeOf is the shape that the words of a line tell.
func shapeOf(words []string) shape {
	var s shape
	s.answers, _ = typ.Parse(words[0])
	for _, w := range words[1:] {
		if w == ".." {
			s.many = true
			continue
		}
		t, _ := typ.Parse(w)
		s.of = append(s.of, t)
	}
	return s
}

// takes tells whether there may be n arguments.
func (s shape) takes(n int) bool { return s.many || n == len(s.of) }

// fits tells whether each argument is of its type.
func (s shape) fits(a []api.Value) bool {
	for i, v := range a {
		t := s.of[0]
		if !s.many {
			t = s.of[i]
		}
		if !isOf(v, t) {
			return false
		}
	}
	return true
}

// isOf tells whether v, which is known, is of t. That isn't whether it fits it: a null fits each type, and is of any alone.
func isOf(v api.Value, t api.Type) bool {
	if t.Kind == api.Any {
		return true
	}
	if v.Kind == api.VNull || value.TypeOf(v).Kind != t.Kind {
		return false
	}
	for _, x := range v.L {
		if !isOf(x, api.Type{Kind: t.Of}) {
			return false
		}
	}
	return true
}
