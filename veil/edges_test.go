package veil

import (
	"math/rand"
	"slices"
	"strconv"
	"testing"

	"veil/api"
	"veil/store"
)

// These tests lay edges into the graph by hand.

func edge(kind string, from, to int) store.Edge {
	return store.Edge{Type: kind, From: from, To: to}
}

// P14: edges stand behind all nodes, in the order of their numbers, each told by itself.
func TestDumpEdges(t *testing.T) {
	g, _ := New("role root\nmake A")
	for range 10 {
		g.Run("root", "CREATE (A)", 1)
	}
	g.all.Edges = []store.Edge{edge("U", 10, 2), edge("T", 1, 1), edge("U", 10, 2), edge("Abc", 2, 9)}
	want := []string{"1 A", "2 A", "3 A", "4 A", "5 A", "6 A", "7 A", "8 A", "9 A", "10 A", "10 U 2", "1 T 1", "10 U 2", "2 Abc 9"}
	if got := g.Dump(); !slices.Equal(got, want) {
		t.Errorf("Dump() = %q, want %q", got, want)
	}
}

const guestPolicy = "role guest\nsee A\nsee B\nread A.k\nread B.j\nread H.k\nwalk T\nwalk V"

// seenGraph makes a graph of which the guest sees all.
func seenGraph(r *rand.Rand) store.Graph {
	var all store.Graph
	for range 2 + r.Intn(4) {
		if r.Intn(2) == 0 {
			all.Add("A", map[string]int{"k": r.Intn(3)})
		} else {
			all.Add("B", map[string]int{"j": r.Intn(3)})
		}
	}
	for range r.Intn(7) {
		n := len(all.Nodes)
		all.Edges = append(all.Edges, edge([]string{"T", "V"}[r.Intn(2)], 1+r.Intn(n), 1+r.Intn(n)))
	}
	return all
}

// withMore copies a graph and adds what the guest does not see: nodes, keys, edges by their type, edges by their ends.
func withMore(r *rand.Rand, seen store.Graph) store.Graph {
	var all store.Graph
	for _, node := range seen.Nodes {
		props := map[string]int{"x": r.Intn(3), map[string]string{"A": "j", "B": "k"}[node.Label]: r.Intn(3)}
		for key, value := range node.Props {
			props[key] = value
		}
		all.Add(node.Label, props)
	}
	n := len(all.Nodes)
	for range 1 + r.Intn(3) {
		all.Add([]string{"H", "I"}[r.Intn(2)], map[string]int{"k": 1, "j": 1})
	}
	m := len(all.Nodes)
	all.Edges = slices.Clone(seen.Edges)
	for range 1 + r.Intn(8) {
		hidden := []store.Edge{edge("U", 1+r.Intn(m), 1+r.Intn(m)), edge("T", 1+r.Intn(m), n+1+r.Intn(m-n)), edge("T", n+1+r.Intn(m-n), 1+r.Intn(m))}[r.Intn(3)]
		all.Edges = slices.Insert(all.Edges, r.Intn(len(all.Edges)+1), hidden)
	}
	return all
}

// P15: what a role does not see has no part in what it is answered, rows, order and ErrBudget; and with a greater budget an answer is the same.
func TestUnseenHasNoPart(t *testing.T) {
	texts := []string{
		"MATCH (a) RETURN a,a.k,a.j,a.x", "MATCH (a) RETURN a.j,COUNT", "MATCH (a:H) RETURN COUNT", "MATCH (a)-[U]->(b) RETURN a,b",
		"MATCH (a)-[T*0..3]->(b) RETURN a,b.k,COUNT ORDER BY 3 DESC", "MATCH (a:A)-[T]->(b)-[V*1..2]->(c) RETURN a,b,c",
		"MATCH (a)-[T]->(b),(c) WHERE a.k=c.k AND b.x IS NULL RETURN a,b,c LIMIT 3", "MATCH (a),(b) WHERE a.j<>b.k RETURN a,b",
	}
	r := rand.New(rand.NewSource(2))
	rows, refused := 0, 0
	for range 60 {
		g, _ := New(guestPolicy)
		g.all = seenGraph(r)
		other, _ := New(guestPolicy)
		other.all = withMore(r, g.all)
		for _, text := range texts {
			first, _ := g.Run("guest", text, api.MaxBudget)
			rows += len(first)
			for budget := range 60 {
				a, aFault := g.Run("guest", text, budget)
				b, bFault := other.Run("guest", text, budget)
				if aFault != bFault || !slices.Equal(a, b) {
					t.Fatalf("%s with %d: %q, %d; with what is not seen %q, %d\n%q\n%q", text, budget, a, aFault, b, bFault, g.Dump(), other.Dump())
				}
				if aFault == api.ErrBudget {
					refused++
				} else if aFault != api.OK || !slices.Equal(a, first) {
					t.Fatalf("%s with %s: %q, %d, want %q", text, strconv.Itoa(budget), a, aFault, first)
				}
			}
		}
	}
	if rows < 500 || refused < 500 {
		t.Errorf("%d rows, %d refused: too few to tell", rows, refused)
	}
}
