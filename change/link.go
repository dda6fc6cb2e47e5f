package change

import (
	"cmp"
	"maps"
	"slices"

	"veil/api"
	"veil/match"
	"veil/rights"
	"veil/sight"
	"veil/store"
)

// pair has the nodes that a new edge goes from and to.
type pair struct {
	from, to int
}

// link adds an edge for each pair of nodes that some row has; it answers how many.
func link(all *store.Graph, who rights.Role, q api.Query, budget int) (int, api.Errno) {
	pairs, enough := pairsOf(sight.Of(all, who), q, budget)
	switch {
	case !enough:
		return 0, api.ErrBudget
	case !who.May(rights.Right{Verb: rights.Link, Of: q.Type}):
		return 0, api.ErrDenied
	case len(all.Edges)+len(pairs) > api.MaxEdges:
		return 0, api.ErrFull
	}
	for _, p := range pairs {
		all.Link(q.Type, p.from, p.to)
	}
	return len(pairs), api.OK
}

// pairsOf tells the pairs of nodes that some row has for the query's two variables, each once, in order; and whether the budget was enough.
func pairsOf(seen *store.Graph, q api.Query, budget int) ([]pair, bool) {
	found := map[pair]struct{}{}
	enough := match.Each(seen, q, budget, func(bound map[string]int) {
		found[pair{from: bound[q.Name], to: bound[q.To]}] = struct{}{}
	})
	return slices.SortedFunc(maps.Keys(found), comparePairs), enough
}

func comparePairs(a, b pair) int {
	return cmp.Or(cmp.Compare(a.from, b.from), cmp.Compare(a.to, b.to))
}
