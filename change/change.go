// Package change changes a graph for a role, as far as the role may.
package change

import (
	"maps"
	"slices"
	"strconv"

	"veil/api"
	"veil/match"
	"veil/rights"
	"veil/store"
)

// Do does a make, a link, a set or a delete (P11, P12). Whatever it does, it finds out that it may ahead of the first change, so that a refusal leaves all as it was.
func Do(all *store.Graph, who rights.Role, q api.Query, budget int) ([]string, api.Errno) {
	count, fault := done(all, who, q, budget)
	if fault != api.OK {
		return nil, fault
	}
	return []string{strconv.Itoa(count)}, api.OK
}

func done(all *store.Graph, who rights.Role, q api.Query, budget int) (int, api.Errno) {
	switch q.Kind {
	case api.Make:
		return makeNode(all, who, q, budget)
	case api.Link:
		return link(all, who, q, budget)
	case api.Set:
		return set(all, who, q, budget)
	}
	return drop(all, who, q, budget)
}

// nodesOf tells the nodes that some row has for the query's variable, each once, by their numbers; and whether the budget was enough.
func nodesOf(seen *store.Graph, q api.Query, budget int) ([]int, bool) {
	found := map[int]struct{}{}
	enough := match.Each(seen, q, budget, func(bound map[string]int) {
		found[bound[q.Name]] = struct{}{}
	})
	return slices.Sorted(maps.Keys(found)), enough
}

// mayAtAll: does the role have a right at the label of each of these nodes?
func mayAtAll(seen *store.Graph, who rights.Role, verb rights.Verb, key string, nodes []int) bool {
	for _, number := range nodes {
		node, _ := seen.Node(number)
		if !who.May(rights.Right{Verb: verb, Of: node.Label, Key: key}) {
			return false
		}
	}
	return true
}
