package match_test

import (
	"math/rand"
	"slices"
	"strconv"
	"strings"
	"testing"

	"veil/api"
	"veil/store"
)

// choice is a choice of a node for each spot; its ways are told by how often it stands in a list.
type choice []int

// sequences lists all sequences of up to most places of edges, none of them twice in one.
func sequences(edges, most int) [][]int {
	list := [][]int{{}}
	for from := 0; len(list[from]) < most; from++ {
		for e := range edges {
			if !slices.Contains(list[from], e) {
				list = append(list, append(slices.Clone(list[from]), e))
			}
		}
		if from+1 == len(list) {
			break
		}
	}
	return list
}

// isWay: do these edges go, one behind the other, from a node to a node?
func isWay(g *store.Graph, kind string, from, to int, places []int) bool {
	for _, i := range places {
		if g.Edges[i].Type != kind || g.Edges[i].From != from {
			return false
		}
		from = g.Edges[i].To
	}
	return from == to
}

// countWays counts the ways of so many edges from a node to a node.
func countWays(g *store.Graph, spot api.Spot, all [][]int, from, to, least, most int) int {
	n := 0
	for _, places := range all {
		if least <= len(places) && len(places) <= most && isWay(g, spot.Type, from, to, places) {
			n++
		}
	}
	return n
}

// mayStand: may this node stand at the spot behind this choice?
func mayStand(spots []api.Spot, c choice, node store.Node) bool {
	spot := spots[len(c)]
	for i, number := range c {
		if spots[i].Name == spot.Name && number != node.Number {
			return false
		}
	}
	return spot.Label == "" || spot.Label == node.Label
}

// reference tells all choices for all spots and their cost, as P9 words it.
func reference(g *store.Graph, spots []api.Spot) (choices []choice, cost int) {
	all := sequences(len(g.Edges), api.MaxHops)
	choices = []choice{nil}
	for i, spot := range spots {
		var next []choice
		for _, c := range choices {
			for _, node := range g.Nodes {
				ways := 1
				if spot.Type != "" {
					ways = countWays(g, spot, all, c[i-1], node.Number, spot.Least, spot.Most)
					cost += countWays(g, spot, all, c[i-1], node.Number, 1, spot.Most)
				}
				if mayStand(spots, c, node) {
					next = append(next, slices.Repeat([]choice{append(slices.Clone(c), node.Number)}, ways)...)
				}
			}
		}
		cost += len(next)
		choices = next
	}
	return choices, cost
}

// texts writes choices as rows does.
func texts(spots []api.Spot, choices []choice) []string {
	var list []string
	for _, c := range choices {
		var words []string
		for i, number := range c {
			words = append(words, spots[i].Name+strconv.Itoa(number))
		}
		slices.Sort(words)
		list = append(list, strings.Join(slices.Compact(words), " "))
	}
	slices.Sort(list)
	return list
}

func randomGraph(r *rand.Rand) *store.Graph {
	g := &store.Graph{}
	for range 1 + r.Intn(5) {
		g.Add([]string{"A", "B"}[r.Intn(2)], map[string]int{})
	}
	if r.Intn(3) == 0 { // numbers need not follow each other
		g.Nodes = slices.Delete(g.Nodes, 0, 1)
	}
	for range r.Intn(8) {
		if n := len(g.Nodes); n > 0 {
			g.Edges = append(g.Edges, store.Edge{Type: []string{"T", "T", "U"}[r.Intn(3)], From: g.Nodes[r.Intn(n)].Number, To: g.Nodes[r.Intn(n)].Number})
		}
	}
	return g
}

func randomPaths(r *rand.Rand) string {
	text := ""
	for i := range 1 + r.Intn(4) {
		if i > 0 {
			least := r.Intn(3)
			hops := "*" + strconv.Itoa(least) + ".." + strconv.Itoa(least+r.Intn(3))
			text += []string{",", "-[T]->", "-[T" + hops + "]->", "-[U" + hops + "]->"}[r.Intn(4)]
		}
		text += "(" + []string{"a", "b", "c"}[r.Intn(3)] + []string{"", "", ":A", ":B"}[r.Intn(4)] + ")"
	}
	return text
}

// Rows and cost are those of a slower way to find them, which tries all nodes and all sequences of edges.
func TestReference(t *testing.T) {
	r := rand.New(rand.NewSource(1))
	matches, rowsSeen := 0, 0
	for range 1500 {
		g, paths := randomGraph(r), randomPaths(r)
		spots := parse(t, "MATCH "+paths+" RETURN COUNT").Spots
		choices, cost := reference(g, spots)
		if cost > api.MaxBudget {
			continue
		}
		matches++
		rowsSeen += len(choices)
		check(t, g, paths, cost, texts(spots, choices)...)
		if t.Failed() {
			t.Fatalf("in %v", g)
		}
	}
	if matches < 1000 || rowsSeen < 2*matches {
		t.Errorf("%d matches, %d rows", matches, rowsSeen)
	}
}
