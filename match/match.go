// Package match finds the rows of a match.
package match

import (
	"veil/api"
	"veil/store"
)

// Each finds the rows of a match in a graph (P9) and hands each to use: the node of each variable, in a map that goes on to be used for the next row. It answers false, if the match costs more than the budget: what was handed on by then is not all, and not to be told.
func Each(g *store.Graph, q api.Query, budget int, use func(bound map[string]int)) bool {
	f := finder{graph: g, query: q, left: budget, use: use, bound: map[string]int{}, taken: map[int]struct{}{}}
	f.choose(0)
	return f.left >= 0
}

// finder goes through the paths: it chooses a node for one spot behind the other, and comes back for the next choice.
type finder struct {
	graph *store.Graph
	query api.Query
	left  int // of the budget; below 0: it was not enough
	use   func(bound map[string]int)
	bound map[string]int      // the node of each variable that has one by now
	ends  [api.MaxSpots][]int // of each spot: the nodes that may be chosen, once for each way to them
	ways  []way
	taken map[int]struct{} // the edges of the way in hand
}

// pays takes one from the budget; it answers whether that was there.
func (f *finder) pays() bool {
	f.left--
	return f.left >= 0
}

// choose goes through the choices for a spot and all behind it.
func (f *finder) choose(i int) {
	if i == len(f.query.Spots) {
		f.end()
		return
	}
	spot := f.query.Spots[i]
	f.ends[i] = f.ends[i][:0]
	if spot.Type == "" {
		f.start(i)
	} else {
		f.walk(i)
	}
	node, bound := f.bound[spot.Name]
	for _, end := range f.ends[i] {
		if bound && end != node || !f.hasLabel(end, spot.Label) {
			continue
		}
		if !f.pays() {
			return
		}
		f.bound[spot.Name] = end
		f.choose(i + 1)
	}
	if !bound {
		delete(f.bound, spot.Name)
	}
}

// end: all spots have a node, so this is a row, if the conditions hold.
func (f *finder) end() {
	if holdAll(f.graph, f.query.Conds, f.bound) {
		f.use(f.bound)
	}
}

// start: where a path begins, any node may stand.
func (f *finder) start(i int) {
	for _, node := range f.graph.Nodes {
		f.ends[i] = append(f.ends[i], node.Number)
	}
}

// hasLabel: does a node have this label, if it is one?
func (f *finder) hasLabel(number int, label string) bool {
	node, _ := f.graph.Node(number)
	return label == "" || label == node.Label
}
