package lex

import "surety/api"

// At is the place at so many bytes of s.
func At(s string, at int) api.Pos { return places(s)(at) }

// places tells places of s, each asked for behind the one ahead of it: it goes on from there, so that s is gone through once, however many are asked for. What is below 0 is the beginning, what is too great the end.
func places(s string) func(at int) api.Pos {
	p := api.Pos{Line: 1, Col: 1}
	return func(at int) api.Pos {
		for ; p.At < min(at, len(s)); p.At++ {
			p.Col++
			if s[p.At] == '\n' {
				p.Line++
				p.Col = 1
			}
		}
		return p
	}
}
