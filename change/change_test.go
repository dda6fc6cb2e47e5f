package change_test

import (
	"maps"
	"slices"
	"strconv"
	"strings"
	"testing"

	"veil/api"
	"veil/change"
	"veil/query"
	"veil/rights"
	"veil/store"
)

// chain makes the nodes 1 A k=1 j=7, 2 B, 3 A k=3, 4 H k=4 and these edges: T from 1 to 2, 2 to 3, 3 to 1 and 3 to 4, U from 1 to 3.
func chain() *store.Graph {
	g := &store.Graph{}
	g.Add("A", map[string]int{"k": 1, "j": 7})
	g.Add("B", map[string]int{})
	g.Add("A", map[string]int{"k": 3})
	g.Add("H", map[string]int{"k": 4})
	g.Link("T", 1, 2)
	g.Link("T", 2, 3)
	g.Link("T", 3, 1)
	g.Link("U", 1, 3)
	g.Link("T", 3, 4)
	return g
}

const (
	chainNodes = "1A j7 k1; 2B; 3A k3; 4H k4; "
	chainEdges = "1T2 2T3 3T1 1U3 3T4"
)

// told tells a graph in one text.
func told(g *store.Graph) string {
	text := ""
	for _, n := range g.Nodes {
		text += strconv.Itoa(n.Number) + n.Label
		for _, key := range slices.Sorted(maps.Keys(n.Props)) {
			text += " " + key + strconv.Itoa(n.Props[key])
		}
		text += "; "
	}
	for _, e := range g.Edges {
		text += strconv.Itoa(e.From) + e.Type + strconv.Itoa(e.To) + " "
	}
	return strings.TrimSpace(text)
}

// do does a query for a role that has these rights, with commas between them.
func do(t *testing.T, g *store.Graph, lines, text string, budget int) ([]string, api.Errno) {
	t.Helper()
	policy, ok := rights.Parse("role a\n" + strings.ReplaceAll(lines, ",", "\n"))
	role, there := policy.Role("a")
	q, fault := query.Parse(text)
	if !ok || !there || fault != api.OK {
		t.Fatalf("rights %q, query %q", lines, text)
	}
	return change.Do(g, role, q, budget)
}

// changes: the query must answer a number, and leave this.
func changes(t *testing.T, g *store.Graph, lines, text string, budget int, answer, want string) {
	t.Helper()
	if got, fault := do(t, g, lines, text, budget); fault != api.OK || !slices.Equal(got, []string{answer}) {
		t.Errorf("%s: %q, %d, want %q", text, got, fault, answer)
	}
	if told(g) != want {
		t.Errorf("%s leaves\n%s, want\n%s", text, told(g), want)
	}
}

// refuses: the query must answer this error, nothing beside it, and change nothing.
func refuses(t *testing.T, g *store.Graph, lines, text string, budget int, want api.Errno) {
	t.Helper()
	before := told(g)
	if got, fault := do(t, g, lines, text, budget); fault != want || got != nil {
		t.Errorf("%s with %d: %q, %d, want %d", text, budget, got, fault, want)
	}
	if told(g) != before {
		t.Errorf("%s leaves\n%s, want\n%s", text, told(g), before)
	}
}

const seeAll = "see A,see B,see H,read A.k,read A.j,read H.k,walk T,walk U,"

func TestMake(t *testing.T) {
	g := chain()
	changes(t, g, "make A", "CREATE (A)", 1, "5", chainNodes+"5A; "+chainEdges)
	changes(t, g, "make C,set C.x,set C.y", "CREATE (C {y:-1,x:0})", 1, "6", chainNodes+"5A; 6C x0 y-1; "+chainEdges)
	refuses(t, g, "", "CREATE (A)", 0, api.ErrBudget)
	refuses(t, g, "make B,set A.k,link A", "CREATE (A)", 1, api.ErrDenied)
	refuses(t, g, "make A,set A.k,set B.j", "CREATE (A {k:1,j:1})", 1, api.ErrDenied)
	refuses(t, g, "set A.k", "CREATE (A {k:1})", 1, api.ErrDenied)
}

func TestMakeUntilFull(t *testing.T) {
	g := &store.Graph{}
	for i := range api.MaxNodes {
		if got, fault := do(t, g, "make A", "CREATE (A)", 1); fault != api.OK || got[0] != strconv.Itoa(i+1) {
			t.Fatalf("%q, %d", got, fault)
		}
	}
	refuses(t, g, "make A", "CREATE (A)", 1, api.ErrFull)
	refuses(t, g, "", "CREATE (A)", 1, api.ErrDenied)
	g.Drop([]int{7, 40})
	if got, fault := do(t, g, "make A", "CREATE (A)", 1); fault != api.OK || got[0] != "41" {
		t.Errorf("behind two that are gone: %q, %d", got, fault)
	}
}

// P11: one edge for each pair, however many rows have it, in the order of the pairs.
func TestLink(t *testing.T) {
	const all = chainNodes + chainEdges
	for _, c := range []struct{ text, answer, more string }{
		{"MATCH (a:A),(b:B) CREATE (a)-[T]->(b)", "2", " 1T2 3T2"},
		{"MATCH (b:B),(a:A) CREATE (b)-[T]->(a)", "2", " 2T1 2T3"},
		{"MATCH (b:B),(a:A) CREATE (a)-[T]->(b)", "2", " 1T2 3T2"},
		{"MATCH (a:A),(b:A) CREATE (b)-[T]->(a)", "4", " 1T1 1T3 3T1 3T3"},
		{"MATCH (a:A),(b:A),(c) CREATE (a)-[T]->(b)", "4", " 1T1 1T3 3T1 3T3"},
		{"MATCH (a),(b),(c) WHERE a.k>=3 CREATE (c)-[T]->(a)", "8", " 1T3 1T4 2T3 2T4 3T3 3T4 4T3 4T4"},
		{"MATCH (a) CREATE (a)-[T]->(a)", "4", " 1T1 2T2 3T3 4T4"},
		{"MATCH (a)-[T]->(b) CREATE (b)-[T]->(a)", "4", " 1T3 2T1 3T2 4T3"},
		{"MATCH (a:B)-[T*0..4]->(b) CREATE (b)-[T]->(a)", "4", " 1T2 2T2 3T2 4T2"},
		{"MATCH (a),(b) WHERE 1=2 CREATE (a)-[T]->(b)", "0", ""},
		{"MATCH (a:C),(b) CREATE (a)-[T]->(b)", "0", ""},
	} {
		changes(t, chain(), seeAll+"link T", c.text, api.MaxBudget, c.answer, all+c.more)
	}
}

// P11: a link needs no right but that to its type, at nodes that are seen; whoever adds an edge need not see it.
func TestLinkRights(t *testing.T) {
	const text = "MATCH (a),(b) CREATE (a)-[T]->(b)"
	changes(t, chain(), "see B,link T", text, 2, "1", chainNodes+chainEdges+" 2T2")
	changes(t, chain(), "see B,link W", "MATCH (a) CREATE (a)-[W]->(a)", 1, "1", chainNodes+chainEdges+" 2W2")
	changes(t, chain(), "link T", text, 0, "0", chainNodes+chainEdges)
	refuses(t, chain(), seeAll+"link U,cut T,make T,drop A,detach", text, api.MaxBudget, api.ErrDenied)
	refuses(t, chain(), seeAll, "MATCH (a) WHERE 1=2 CREATE (a)-[T]->(a)", api.MaxBudget, api.ErrDenied)
	refuses(t, chain(), "", text, 0, api.ErrDenied)
	refuses(t, chain(), seeAll, text, 19, api.ErrBudget)
	refuses(t, chain(), seeAll+"link T", text, 19, api.ErrBudget)
	changes(t, chain(), "see A,see H,link T", "MATCH (a)-[T*0..4]->(b) CREATE (a)-[T]->(b)", 6, "3", chainNodes+chainEdges+" 1T1 3T3 4T4")
}

func TestLinkUntilFull(t *testing.T) {
	g := chain()
	for range 25 {
		do(t, g, seeAll+"link T", "MATCH (a) WHERE a.k IS NOT NULL CREATE (a)-[T]->(a)", 4)
	}
	if len(g.Edges) != api.MaxEdges {
		t.Fatalf("%d edges", len(g.Edges))
	}
	const one, none = "MATCH (a:B) CREATE (a)-[T]->(a)", "MATCH (a:B) WHERE 1=2 CREATE (a)-[T]->(a)"
	refuses(t, g, "see B,link T", one, 1, api.ErrFull)
	refuses(t, g, "see B", one, 1, api.ErrDenied)
	refuses(t, g, "see B,link T", one, 0, api.ErrBudget)
	changes(t, g, "see B,link T", none, 1, "0", told(g))
	g.Edges = g.Edges[:78]
	refuses(t, g, "see A,see B,link T", "MATCH (a) CREATE (a)-[T]->(a)", 3, api.ErrFull)
	changes(t, g, "see A,link T", "MATCH (a) CREATE (a)-[T]->(a)", 2, "2", told(g)+" 1T1 3T3")
}

// P11: each node once, and each has its own value.
func TestSet(t *testing.T) {
	for _, c := range []struct{ text, answer, nodes string }{
		{"MATCH (a:A) SET a.k=5", "2", "1A j7 k5; 2B; 3A k5; 4H k4; "},
		{"MATCH (a:A) SET a.k=0", "2", "1A j7 k0; 2B; 3A k0; 4H k4; "},
		{"MATCH (a:A) SET a.j=-1000000000", "2", "1A j-1000000000 k1; 2B; 3A j-1000000000 k3; 4H k4; "},
		{"MATCH (a:A) SET a.j=a.k", "2", "1A j1 k1; 2B; 3A j3 k3; 4H k4; "},
		{"MATCH (a:A) SET a.k=a.j", "2", "1A j7 k7; 2B; 3A; 4H k4; "},
		{"MATCH (a:A) SET a.k=a.k", "2", chainNodes},
		{"MATCH (a:A) SET a.k=a.x", "2", "1A j7; 2B; 3A; 4H k4; "},
		{"MATCH (a:A) SET a.j=a.x", "2", "1A k1; 2B; 3A k3; 4H k4; "},
		{"MATCH (a:A),(b) SET a.k=5", "2", "1A j7 k5; 2B; 3A k5; 4H k4; "},
		{"MATCH (b:B)-[T*0..4]->(a) WHERE a.k>=1 AND a.k<4 SET a.k=2", "2", "1A j7 k2; 2B; 3A k2; 4H k4; "},
		{"MATCH (a),(b) WHERE a.k=b.j SET a.k=5", "0", chainNodes},
		{"MATCH (a) WHERE a.k=3 SET a.k=5", "1", "1A j7 k1; 2B; 3A k5; 4H k4; "},
		{"MATCH (a:A) WHERE 1=2 SET a.x=5", "0", chainNodes},
		{"MATCH (a:C) SET a.k=5", "0", chainNodes},
	} {
		changes(t, chain(), seeAll+"set A.k,set A.j", c.text, api.MaxBudget, c.answer, c.nodes+chainEdges)
	}
}

// P11: what the role may not read is NULL to it, though it may set it.
func TestSetWhatIsNotRead(t *testing.T) {
	changes(t, chain(), "see A,read A.k,set A.k,set A.j", "MATCH (a) SET a.k=a.j", 2, "2", "1A j7; 2B; 3A; 4H k4; "+chainEdges)
	changes(t, chain(), "see A,set A.k", "MATCH (a) SET a.k=a.k", 2, "2", "1A j7; 2B; 3A; 4H k4; "+chainEdges)
	changes(t, chain(), "see A,set A.x", "MATCH (a) SET a.x=1", 2, "2", "1A j7 k1 x1; 2B; 3A k3 x1; 4H k4; "+chainEdges)
}

func TestSetRights(t *testing.T) {
	const text = "MATCH (a) SET a.k=5"
	refuses(t, chain(), seeAll+"set A.k,set H.k", text, 4, api.ErrDenied)
	refuses(t, chain(), seeAll+"set A.k,set B.k", text, 4, api.ErrDenied)
	refuses(t, chain(), seeAll+"set A.k,set B.k,set H.j", text, 4, api.ErrDenied)
	refuses(t, chain(), seeAll+"make A,set A.j,drop A", "MATCH (a:A) SET a.k=5", 4, api.ErrDenied)
	refuses(t, chain(), seeAll, text, 3, api.ErrBudget)
	refuses(t, chain(), seeAll+"set A.k,set B.k,set H.k", text, 3, api.ErrBudget)
	changes(t, chain(), seeAll+"set A.k,set B.k,set H.k", text, 4, "4", "1A j7 k5; 2B k5; 3A k5; 4H k5; "+chainEdges)
	changes(t, chain(), "see A,set A.k", text, 2, "2", "1A j7 k5; 2B; 3A k5; 4H k4; "+chainEdges)
	changes(t, chain(), "set A.k", text, 0, "0", chainNodes+chainEdges)
	changes(t, chain(), seeAll, "MATCH (a) WHERE a.k=9 SET a.k=5", 4, "0", chainNodes+chainEdges)
}

// P12: the nodes, each counted once, and all edges at them.
func TestDelete(t *testing.T) {
	const may = seeAll + "drop A,drop B,drop H,cut T,cut U"
	for _, c := range []struct{ text, answer, want string }{
		{"MATCH (a) DELETE a", "4", ""},
		{"MATCH (a),(b) DELETE a", "4", ""},
		{"MATCH (a:A) DELETE a", "2", "2B; 4H k4;"},
		{"MATCH (a:B) DELETE a", "1", "1A j7 k1; 3A k3; 4H k4; 3T1 1U3 3T4"},
		{"MATCH (a:H),(b) DELETE a", "1", "1A j7 k1; 2B; 3A k3; 1T2 2T3 3T1 1U3"},
		{"MATCH (b:B)-[T]->(c) DELETE c", "1", "1A j7 k1; 2B; 4H k4; 1T2"},
		{"MATCH (b:B)-[T]->(c) DELETE b", "1", "1A j7 k1; 3A k3; 4H k4; 3T1 1U3 3T4"},
		{"MATCH (a) WHERE a.k=1 DELETE a", "1", "2B; 3A k3; 4H k4; 2T3 3T4"},
		{"MATCH (a) WHERE a.k=9 DELETE a", "0", chainNodes + chainEdges},
	} {
		changes(t, chain(), may, c.text, api.MaxBudget, c.answer, c.want)
	}
}

// P12: an edge that is seen needs cut, one that is not needs detach, and neither right stands in for the other.
func TestDeleteRights(t *testing.T) {
	const behind = "1A j7 k1; 3A k3; 4H k4; 3T1 1U3 3T4"
	const text = "MATCH (a:B) DELETE a"
	changes(t, chain(), "see A,see B,walk T,drop B,cut T", text, 1, "1", behind)
	refuses(t, chain(), "see A,see B,walk T,drop B,cut U,detach", text, 1, api.ErrDenied)
	changes(t, chain(), "see A,see B,drop B,detach", text, 1, "1", behind)
	refuses(t, chain(), "see A,see B,drop B,cut T,cut U", text, 1, api.ErrDenied)
	changes(t, chain(), "see B,walk T,drop B,detach", text, 1, "1", behind)
	refuses(t, chain(), "see B,walk T,drop B,cut T", text, 1, api.ErrDenied)
	refuses(t, chain(), "see A,see B,walk T,cut T,detach,drop A,make B", text, 1, api.ErrDenied)
	refuses(t, chain(), "see B", text, 0, api.ErrBudget)
	refuses(t, chain(), "see B,drop B,detach", text, 0, api.ErrBudget)
	changes(t, chain(), "drop B", text, 0, "0", chainNodes+chainEdges)
	changes(t, chain(), "see B", "MATCH (a) WHERE 1=2 DELETE a", 1, "0", chainNodes+chainEdges)
}

// P12: of the edges at the node 3 some are seen and some are not, at either end.
func TestDeleteNeedsBoth(t *testing.T) {
	const text = "MATCH (a:A) WHERE a.k=3 DELETE a"
	const behind = "1A j7 k1; 2B; 4H k4; 1T2"
	const sees = "see A,see B,read A.k,drop A,walk T,"
	changes(t, chain(), sees+"cut T,detach", text, 2, "1", behind)
	refuses(t, chain(), sees+"cut T,cut U", text, 2, api.ErrDenied)
	refuses(t, chain(), sees+"detach,cut U", text, 2, api.ErrDenied)
	refuses(t, chain(), sees+"cut T,detach", "MATCH (a) WHERE a.k IS NULL DELETE a", 3, api.ErrDenied)
	changes(t, chain(), sees+"see H,walk U,cut T,cut U", text, 2, "1", behind)
	refuses(t, chain(), sees+"see H,cut T,cut U", text, 2, api.ErrDenied)
	refuses(t, chain(), sees+"walk U,cut T,cut U", text, 2, api.ErrDenied)
}

// P12: edges elsewhere and edges of a node to itself.
func TestDeleteOtherEdges(t *testing.T) {
	g := &store.Graph{}
	for range 3 {
		g.Add("A", map[string]int{})
	}
	g.Add("B", map[string]int{})
	g.Link("U", 1, 2)
	g.Link("T", 4, 4)
	changes(t, g, "see B,drop B,walk T,cut T", "MATCH (b) DELETE b", 1, "1", "1A; 2A; 3A; 1U2")
	g.Add("B", map[string]int{})
	g.Link("T", 5, 5)
	refuses(t, g, "see B,drop B,cut T", "MATCH (b) DELETE b", 1, api.ErrDenied)
	refuses(t, g, "see B,drop B,walk T,detach", "MATCH (b) DELETE b", 1, api.ErrDenied)
	changes(t, g, "see B,drop B,detach", "MATCH (b) DELETE b", 1, "1", "1A; 2A; 3A; 1U2")
}
