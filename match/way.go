package match

import "veil/api"

// way is a way along edges (their places in the graph) to a node.
type way struct {
	edges [api.MaxHops]int
	hops  int
	at    int
}

// walk goes all ways of a step, the short ones first, from the spot ahead of its own. It stops where the budget is not enough, for there may be far more of them than can be gone.
func (f *finder) walk(i int) {
	step := f.query.Spots[i]
	from := f.bound[f.query.Spots[i-1].Name]
	f.ways = append(f.ways[:0], way{at: from})
	for n := 0; n < len(f.ways) && f.left >= 0; n++ {
		w := f.ways[n]
		if w.hops >= step.Least {
			f.ends[i] = append(f.ends[i], w.at)
		}
		if w.hops < step.Most {
			f.goOn(w, step.Type)
		}
	}
}

// goOn adds the ways that go one edge of a type further than this one.
func (f *finder) goOn(w way, kind string) {
	clear(f.taken)
	for _, place := range w.edges[:w.hops] {
		f.taken[place] = struct{}{}
	}
	for place, edge := range f.graph.Edges {
		if _, taken := f.taken[place]; taken || edge.From != w.at || edge.Type != kind {
			continue
		}
		if !f.pays() {
			return
		}
		next := way{edges: w.edges, hops: w.hops + 1, at: edge.To}
		next.edges[w.hops] = place
		f.ways = append(f.ways, next)
	}
}
