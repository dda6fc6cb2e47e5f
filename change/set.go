package change

import (
	"veil/api"
	"veil/match"
	"veil/rights"
	"veil/sight"
	"veil/store"
)

// set gives nodes a property, or takes it from them; it answers how many they were.
func set(all *store.Graph, who rights.Role, q api.Query, budget int) (int, api.Errno) {
	seen := sight.Of(all, who)
	nodes, enough := nodesOf(seen, q, budget)
	switch {
	case !enough:
		return 0, api.ErrBudget
	case !mayAtAll(seen, who, rights.Set, q.Key, nodes):
		return 0, api.ErrDenied
	}
	for _, number := range nodes {
		all.Set(number, q.Key, match.Value(seen, q.Value, number))
	}
	return len(nodes), api.OK
}
