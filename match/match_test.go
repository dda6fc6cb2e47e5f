package match_test

import (
	"maps"
	"slices"
	"strconv"
	"strings"
	"testing"

	"veil/api"
	"veil/match"
	"veil/query"
	"veil/store"
)

// graph makes a graph: a node for each label, and edges like T12, from node 1 to node 2.
func graph(labels string, edges ...string) *store.Graph {
	g := &store.Graph{}
	for _, label := range strings.Fields(labels) {
		g.Add(label, map[string]int{})
	}
	for _, e := range edges {
		g.Edges = append(g.Edges, store.Edge{Type: e[:1], From: int(e[1] - '0'), To: int(e[2] - '0')})
	}
	return g
}

func parse(t *testing.T, text string) api.Query {
	t.Helper()
	q, fault := query.Parse(text)
	if fault != api.OK {
		t.Fatalf("Parse(%q) = %d", text, fault)
	}
	return q
}

// rows tells the rows of a match, the nodes of the variables by their names, in order.
func rows(t *testing.T, g *store.Graph, paths string, budget int) ([]string, bool) {
	t.Helper()
	var list []string
	ok := match.Each(g, parse(t, "MATCH "+paths+" RETURN COUNT"), budget, func(bound map[string]int) {
		text := ""
		for _, name := range slices.Sorted(maps.Keys(bound)) {
			text += name + strconv.Itoa(bound[name]) + " "
		}
		list = append(list, strings.TrimSpace(text))
	})
	slices.Sort(list)
	return list, ok
}

// check holds rows and cost of a match against what they must be.
func check(t *testing.T, g *store.Graph, paths string, cost int, want ...string) {
	t.Helper()
	slices.Sort(want)
	for _, budget := range []int{cost, cost + 1, api.MaxBudget} {
		if got, ok := rows(t, g, paths, budget); !ok || !slices.Equal(got, want) {
			t.Errorf("%s with %d: %q, %v, want %q", paths, budget, got, ok, want)
		}
	}
	for _, budget := range []int{cost - 1, 0} {
		if _, ok := rows(t, g, paths, budget); ok != (budget >= cost) {
			t.Errorf("%s with %d: %v", paths, budget, ok)
		}
	}
}

func TestSpots(t *testing.T) {
	g := graph("A B A")
	check(t, g, "(a)", 3, "a1", "a2", "a3")
	check(t, g, "(a:A)", 2, "a1", "a3")
	check(t, g, "(a:C)", 0)
	check(t, g, "(a:A),(b:B)", 4, "a1 b2", "a3 b2")
	check(t, g, "(a),(b)", 12, "a1 b1", "a1 b2", "a1 b3", "a2 b1", "a2 b2", "a2 b3", "a3 b1", "a3 b2", "a3 b3")
	check(t, g, "(a),(a)", 6, "a1", "a2", "a3")
	check(t, g, "(a),(a:A)", 5, "a1", "a3")
	check(t, g, "(a:A),(a)", 4, "a1", "a3")
	check(t, g, "(a:A),(a:B)", 2)
	check(t, g, "(a:B),(b),(a:A),(c)", 4)
	check(t, g, "(a:B),(b:B),(a),(b:B),(c:B),(a)", 6, "a2 b2 c2")
	check(t, graph(""), "(a),(b)", 0)
}

func TestSteps(t *testing.T) {
	// 1 -T-> 2 twice, 2 -T-> 3, 1 -U-> 3, 3 -T-> 3
	g := graph("A B A", "T12", "T12", "T23", "U13", "T33")
	check(t, g, "(a)-[T]->(b)", 3+4+4, "a1 b2", "a1 b2", "a2 b3", "a3 b3")
	check(t, g, "(a)-[U]->(b)", 3+1+1, "a1 b3")
	check(t, g, "(a)-[V]->(b)", 3)
	check(t, g, "(a:B)-[T]->(b)", 1+1+1, "a2 b3")
	check(t, g, "(a)-[T]->(b:B)", 3+4+2, "a1 b2", "a1 b2")
	check(t, g, "(a)-[T]->(a)", 3+4+1, "a3")
	check(t, g, "(a)-[T]->(b:C)", 3+4)
	check(t, g, "(a:A)-[T]->(b)-[T]->(c)", 2+3+3+3+3, "a1 b2 c3", "a1 b2 c3", "a3 b3 c3")
	check(t, g, "(a)-[T]->(b),(b)-[U]->(c)", 11+4+0)
	check(t, g, "(a)-[U]->(b),(a)-[T]->(c)", 5+1+2+2, "a1 b3 c2", "a1 b3 c2")
}

func TestHops(t *testing.T) {
	g := graph("A B A", "T12", "T12", "T23", "U13", "T33")
	// from 1: two ways of one edge, two of two, two of three; from 2: one, one; from 3: one
	check(t, g, "(a:B)-[T*0..0]->(b)", 1+0+1, "a2 b2")
	check(t, g, "(a:B)-[T*1..1]->(b)", 1+1+1, "a2 b3")
	check(t, g, "(a:B)-[T*0..1]->(b)", 1+1+2, "a2 b2", "a2 b3")
	check(t, g, "(a:B)-[T*0..4]->(b)", 1+2+3, "a2 b2", "a2 b3", "a2 b3")
	check(t, g, "(a:B)-[T*2..2]->(b)", 1+2+1, "a2 b3")
	check(t, g, "(a:B)-[T*3..4]->(b)", 1+2)
	check(t, g, "(a)-[T*3..3]->(b)", 3+6+2+1+2, "a1 b3", "a1 b3")
	check(t, g, "(a)-[T*2..3]->(b:B)", 3+9)
	check(t, g, "(a)-[T*0..4]->(a)", 3+9+4, "a1", "a2", "a3", "a3")
	check(t, g, "(a)-[W*0..4]->(b)", 3+3, "a1 b1", "a2 b2", "a3 b3")
}

// No edge is twice in one way, but one way may take the edges of another, and a node may be come to twice.
func TestEdgesOfOneWay(t *testing.T) {
	check(t, graph("A", "T11"), "(a)-[T*1..4]->(b)", 1+1+1, "a1 b1")
	check(t, graph("A", "T11"), "(a)-[T]->(b)-[T]->(c)", 1+1+1+1+1, "a1 b1 c1")
	check(t, graph("A", "T11", "T11"), "(a)-[T*2..2]->(b)", 1+4+2, "a1 b1", "a1 b1")
	check(t, graph("A B", "T12", "T21"), "(a:A)-[T*1..4]->(b)", 1+2+2, "a1 b1", "a1 b2")
	check(t, graph("A B", "T12", "T21", "T11"), "(a:A)-[T*3..3]->(b)", 1+(2+2+2)+2, "a1 b1", "a1 b1")
}

// The ways may be more than could ever be gone, the choices too: that is told at once.
func TestNoEndOfWays(t *testing.T) {
	g := graph(strings.Repeat("A ", 40), slices.Repeat([]string{"T11"}, 80)...)
	for _, paths := range []string{"(a),(b),(c),(d),(e),(f)", "(a)-[T*0..4]->(b)-[T*0..4]->(c)-[T*0..4]->(d)", "(a)-[T*4..4]->(b:B)", "(a),(b)-[T*4..4]->(c:B),(d),(e)"} {
		if _, ok := rows(t, g, paths, api.MaxBudget); ok {
			t.Errorf("%s: costs no more than %d", paths, api.MaxBudget)
		}
	}
}

func TestConds(t *testing.T) {
	g := graph("A A A")
	g.Nodes[0].Props["k"] = 1
	g.Nodes[1].Props["k"] = 2
	g.Nodes[1].Props["j"] = 2
	for cond, want := range map[string]string{
		"a.k=1": "a1", "1=a.k": "a1", "a.k<>1": "a2", "a.k<2": "a1", "a.k<=2": "a1 a2", "a.k<=1": "a1", "a.k>1": "a2", "a.k>=1": "a1 a2", "a.k>=2": "a2",
		"2>a.k": "a1", "2>=a.k": "a1 a2", "1<a.k": "a2", "1<=a.k": "a1 a2", "1<>a.k": "a2",
		"a.k=a.j": "a2", "a.k=a.k": "a1 a2", "a.j<>a.k": "", "a.j<=a.k": "a2", "a.j>=a.k": "a2", "a.j<a.k": "", "a.j>a.k": "", "a.x=a.x": "", "a.x<>a.x": "", "a.x<=a.x": "", "a.x>=0": "", "a.x<>0": "", "0=a.x": "", "0<=a.x": "",
		"a.k IS NULL": "a3", "a.k IS NOT NULL": "a1 a2", "a.x IS NULL": "a1 a2 a3", "a.x IS NOT NULL": "", "5 IS NULL": "", "0 IS NOT NULL": "a1 a2 a3",
		"a.k>=1 AND a.k<2": "a1", "a.k<2 AND a.k>=1": "a1", "a.k=1 AND a.k=2": "", "1=2": "", "1=1": "a1 a2 a3", "-1<0": "a1 a2 a3",
	} {
		got, ok := rows(t, g, "(a) WHERE "+cond, 3)
		if !ok || !slices.Equal(got, strings.Fields(want)) {
			t.Errorf("WHERE %s: %q, %v, want %q", cond, got, ok, want)
		}
	}
}

// The cost has no regard to the conditions.
func TestCondsCostNothing(t *testing.T) {
	g := graph("A A", "T12", "T21")
	for _, cond := range []string{"1=2", "1=1", "a.k IS NULL AND b.k IS NULL AND 1=1"} {
		if _, ok := rows(t, g, "(a)-[T]->(b) WHERE "+cond, 6); !ok {
			t.Errorf("WHERE %s costs more than 6", cond)
		}
		if _, ok := rows(t, g, "(a)-[T]->(b) WHERE "+cond, 5); ok {
			t.Errorf("WHERE %s costs less than 6", cond)
		}
	}
}
