// Package query: the language: see DOC.md.
package query

import (
	"strings"

	"veil/api"
)

// Tokens cuts a text into tokens (P3).
func Tokens(text string) ([]api.Token, api.Errno) {
	if len(text) > api.MaxText {
		return nil, api.ErrSyntax
	}
	c := cutter{text: text}
	if !c.cut() {
		return nil, api.ErrSyntax
	}
	return c.list, api.OK
}

// Parse reads a query (P4, P5).
func Parse(text string) (api.Query, api.Errno) {
	tokens, fault := Tokens(text)
	if fault != api.OK {
		return api.Query{}, fault
	}
	p := parser{rest: tokens}
	q := p.query()
	if !p.done() {
		return api.Query{}, api.ErrSyntax
	}
	if !inScope(q) {
		return api.Query{}, api.ErrScope
	}
	return q, api.OK
}

// Format writes a query (P6).
func Format(q api.Query) (string, api.Errno) {
	if hasTooMany(q) {
		return "", api.ErrSyntax
	}
	w := writer{}
	w.query(q)
	text := strings.Join(w.words, " ")
	// Parse alone knows what a query may be: what it does not read back as q is none.
	back, fault := Parse(text)
	if fault != api.OK || !same(back, q) {
		return "", api.ErrSyntax
	}
	return text, api.OK
}
