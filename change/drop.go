package change

import (
	"veil/api"
	"veil/rights"
	"veil/sight"
	"veil/store"
)

// drop takes nodes away, and all edges at them; it answers how many nodes.
func drop(all *store.Graph, who rights.Role, q api.Query, budget int) (int, api.Errno) {
	seen := sight.Of(all, who)
	nodes, enough := nodesOf(seen, q, budget)
	switch {
	case !enough:
		return 0, api.ErrBudget
	case !mayAtAll(seen, who, rights.Drop, "", nodes), !mayFree(all, seen, who, nodes):
		return 0, api.ErrDenied
	}
	all.Drop(nodes)
	return len(nodes), api.OK
}

// mayFree: may the role take away all edges at these nodes?
func mayFree(all, seen *store.Graph, who rights.Role, nodes []int) bool {
	for _, edge := range all.Edges {
		if edge.EndsAt(nodes) && !who.May(rightToRemove(seen, who, edge)) {
			return false
		}
	}
	return true
}

// rightToRemove tells which right a role needs to take an edge away together with one of its ends.
func rightToRemove(seen *store.Graph, who rights.Role, edge store.Edge) rights.Right {
	if sight.HasEdge(seen, who, edge) {
		return rights.Right{Verb: rights.Cut, Of: edge.Type}
	}
	return rights.Right{Verb: rights.Detach}
}
