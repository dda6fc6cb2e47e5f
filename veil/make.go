package veil

import (
	"strconv"

	"veil/api"
	"veil/rights"
)

// costOfMake is what a make costs, whatever it makes.
const costOfMake = 1

// makeNode adds a node (P11).
func (g *Graph) makeNode(who rights.Role, q api.Query, budget int) ([]string, api.Errno) {
	switch {
	case budget < costOfMake:
		return nil, api.ErrBudget
	case !mayMake(who, q):
		return nil, api.ErrDenied
	case len(g.all.Nodes) >= api.MaxNodes:
		return nil, api.ErrFull
	}
	props := map[string]int{}
	for _, pair := range q.Pairs {
		props[pair.Key] = pair.Value
	}
	return []string{strconv.Itoa(g.all.Add(q.Label, props))}, api.OK
}

// mayMake: may the role make a node of this label, with these keys?
func mayMake(who rights.Role, q api.Query) bool {
	for _, pair := range q.Pairs {
		if !who.May(rights.Right{Verb: rights.Set, Of: q.Label, Key: pair.Key}) {
			return false
		}
	}
	return who.May(rights.Right{Verb: rights.Make, Of: q.Label})
}
