package change

import (
	"veil/api"
	"veil/rights"
	"veil/store"
)

// costOfMake is what a make costs, whatever it makes.
const costOfMake = 1

// makeNode adds a node; it answers its number.
func makeNode(all *store.Graph, who rights.Role, q api.Query, budget int) (int, api.Errno) {
	switch {
	case budget < costOfMake:
		return 0, api.ErrBudget
	case !mayMake(who, q):
		return 0, api.ErrDenied
	case len(all.Nodes) >= api.MaxNodes:
		return 0, api.ErrFull
	}
	props := map[string]int{}
	for _, pair := range q.Pairs {
		props[pair.Key] = pair.Value
	}
	return all.Add(q.Label, props), api.OK
}

// mayMake: may the role make a node of this label, with these keys?
func mayMake(who rights.Role, q api.Query) bool {
	for _, pair := range q.Pairs {
		if !who.May(rights.Right{Verb: rights.Set, Of: q.Label, Key: pair.Key}) {
			return false
		}
	}
	return who.May(rights.Right{Verb: rights.Make, Of: q.Label})
}
