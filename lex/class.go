package lex

// The classes of bytes.
const (
	blank  = iota // stands between tokens
	letter        // begins a name
	digit         // begins a number
	word          // goes on with a name
	mark          // is a sign alone
	inner         // stands in an expression of a string
	remark        // stands in a comment
)

// all has each bit of a word set.
const all = 1<<64 - 1

// classes has a bit for each byte that is of a class: those below 64 in the first word, and so on.
var classes = [7][4]uint64{
	blank:  {1<<' ' | 1<<'\t' | 1<<'\n'},
	letter: {1: (1<<26-1)<<('a'-64) | 1<<('_'-64)},
	digit:  {(1<<10 - 1) << '0'},
	word:   {(1<<10 - 1) << '0', (1<<26-1)<<('a'-64) | 1<<('_'-64)},
	mark: {
		1<<'!' | 1<<'%' | 1<<'(' | 1<<')' | 1<<'*' | 1<<'+' | 1<<',' | 1<<'-' | 1<<'.' | 1<<'/' | 1<<':' | 1<<'<' | 1<<'=' | 1<<'>' | 1<<'?',
		1<<('['-64) | 1<<(']'-64) | 1<<('{'-64) | 1<<('}'-64),
	},
	inner:  {all &^ (1<<'"' | 1<<'\n'), all &^ (1<<('{'-64) | 1<<('}'-64)), all, all},
	remark: {all &^ (1 << '\n'), all, all, all},
}

// in tells whether c is of a class.
func in(class int, c byte) bool {
	return classes[class][c>>6]>>(c&63)&1 != 0
}

// behind is the first place, from a place on, at which no byte of a class stands.
func behind(s string, at, class int) int {
	for at < len(s) && in(class, s[at]) {
		at++
	}
	return at
}
