package match

import (
	"veil/api"
	"veil/store"
)

// holdAll: do all conditions hold of a row?
func holdAll(g *store.Graph, conds []api.Cond, bound map[string]int) bool {
	for _, c := range conds {
		if !holds(c.Op, Value(g, c.A, bound[c.A.Name]), Value(g, c.B, bound[c.B.Name])) {
			return false
		}
	}
	return true
}

// Value tells the value of a term whose variable, if it has one, stands for the node of this number.
func Value(g *store.Graph, term api.Term, node int) store.Value {
	if term.Name == "" {
		return store.Number(term.Value)
	}
	return g.Value(node, term.Key)
}

func holds(op int, a, b store.Value) bool {
	switch {
	case op == api.IsNull:
		return !a.Some
	case op == api.IsSome:
		return a.Some
	case !a.Some || !b.Some:
		return false
	}
	order := store.Compare(a, b)
	switch op {
	case api.Equal:
		return order == 0
	case api.Unequal:
		return order != 0
	case api.Less:
		return order < 0
	case api.NoMore:
		return order <= 0
	case api.More:
		return order > 0
	}
	return order >= 0
}
