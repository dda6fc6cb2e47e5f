package veil_test

import (
	"slices"
	"strings"
	"testing"

	"veil/api"
	"veil/veil"
)

// P2: what a call answers depends on its arguments and the calls ahead of it on the same graph alone.
func TestGraphsStandAlone(t *testing.T) {
	a, b := made(t, twoRoles), made(t, twoRoles)
	answers(t, a, "root", "CREATE (A)", "1")
	dumps(t, b)
	answers(t, b, "root", "CREATE (B {k:3})", "1")
	answers(t, a, "root", "CREATE (A)", "2")
	dumps(t, a, "1 A", "2 A")
	dumps(t, b, "1 B k=3")
	for range 3 {
		answers(t, b, "root", "MATCH (a) RETURN a,a.k", "1|3")
	}
	dumps(t, b, "1 B k=3")
}

// overwrite writes into a list and into its spare room.
func overwrite(list []string) {
	for i := range list[:cap(list)] {
		list[:cap(list)][i] = "overwritten"
	}
}

// P2: each list that comes out is new memory, its spare room too.
func TestAnswersAreNewMemory(t *testing.T) {
	g := made(t, strings.Replace(changePolicy, "role guest", "call v\nrole guest", 1))
	defines(t, g, "v", "root", "MATCH (a) RETURN a", api.OK)
	for range 2 {
		for _, text := range []string{"CREATE (A {k:1})", "MATCH (a) CREATE (a)-[T]->(a)", "MATCH (a) SET a.j=2", "MATCH (a:H) DELETE a", "CALL v", "MATCH (a) RETURN a LIMIT 1", "MATCH (a) RETURN a.k,COUNT SKIP 0", "MATCH (a) RETURN a SKIP 9"} {
			list, fault := g.Run("root", text, api.MaxBudget)
			if fault != api.OK {
				t.Fatalf("Run(%q) = %d", text, fault)
			}
			overwrite(list)
			overwrite(g.Dump())
			overwrite(g.Audit())
		}
	}
	answers(t, g, "root", "MATCH (a) RETURN a,a.k", "1|1", "2|1")
	dumps(t, g, "1 A j=2 k=1", "2 A j=2 k=1", "1 T 1", "1 T 1", "2 T 2")
	audits(t, g, "root v", "root v")
	spare := g.Audit()
	answers(t, g, "root", "CALL v", "1", "2")
	overwrite(spare)
	audits(t, g, "root v", "root v", "root v")
}

// P2: views and audits of one graph are not those of another, and what is asked changes neither.
func TestViewsStandAlone(t *testing.T) {
	a, b := viewed(t), viewed(t)
	defines(t, a, "v", "root", "MATCH (a) RETURN COUNT", api.OK)
	refuses(t, b, "guest", "CALL v", 5, api.ErrView)
	defines(t, b, "v", "guest", "MATCH (a) RETURN COUNT", api.OK)
	answers(t, a, "guest", "CALL v", "3")
	answers(t, b, "root", "CALL v", "2")
	for range 3 {
		audits(t, a, "guest v")
		audits(t, b, "root v")
		answers(t, a, "guest", "MATCH (a) RETURN COUNT", "2")
	}
}

// P1: every call ends and none panics; beside an error there is nothing else, and nothing has changed.
func FuzzRun(f *testing.F) {
	for _, text := range []string{"", "CREATE (A {k:1})", "MATCH (a)-[T*0..4]->(b),(c) WHERE a.k>=1 RETURN a,b.k,COUNT ORDER BY 2 DESC SKIP 1 LIMIT 5", "MATCH (a),(b),(c),(d),(e),(f) RETURN COUNT", "MATCH (a) SET a.k=5", "MATCH (a) SET a.k=a.j", "MATCH (a) DELETE a", "MATCH (a),(b) CREATE (a)-[T]->(b)", "CALL v", "\x00\xff"} {
		f.Add(changePolicy, "root", text, "v", 5000)
		f.Add(text, text, text, text, -1)
		f.Add("role a\nsee A\nmake A\nset A.k\nwalk T\ndrop A\nlink T\ncall v", "a", text, "v", 1<<62)
	}
	f.Fuzz(func(t *testing.T, policy, role, text, name string, budget int) {
		g, fault := veil.New(policy)
		if fault != api.OK {
			if g != nil || fault != api.ErrPolicy {
				t.Fatalf("New = %v, %d", g, fault)
			}
			return
		}
		for _, other := range []string{text, "CREATE (A)", text, "MATCH (a),(b) CREATE (a)-[T]->(b)", text, "CALL v", text} {
			g.Define(name, role, other)
			before, written := g.Dump(), len(g.Audit())
			list, fault := g.Run(role, other, budget)
			if fault != api.OK && (list != nil || !slices.Equal(before, g.Dump())) {
				t.Fatalf("Run = %q, %d, Dump %q, ahead %q", list, fault, g.Dump(), before)
			}
			if len(g.Dump()) > api.MaxNodes+api.MaxEdges || len(list) > api.MaxBudget+1 || len(g.Audit()) > written+1 {
				t.Fatalf("Run = %d texts, Dump %d, Audit %d", len(list), len(g.Dump()), len(g.Audit()))
			}
		}
	})
}

// P1: with as many nodes as there may be, even the greatest query ends soon.
func TestGreatQueriesEnd(t *testing.T) {
	g := made(t, twoRoles)
	for range api.MaxNodes {
		g.Run("root", "CREATE (A {k:1})", 1)
	}
	refuses(t, g, "root", "MATCH (a),(b),(c),(d),(e),(f) WHERE a.k=b.k AND c.k=d.k RETURN a,b,c,d,e,f", api.MaxBudget, api.ErrBudget)
	list, fault := g.Run("root", "MATCH (a),(b) RETURN a,b,a.k,b.k,COUNT,COUNT ORDER BY 5 DESC", api.MaxBudget)
	if fault != api.OK || len(list) != 1600 || strings.Count(list[0], "|") != 5 {
		t.Errorf("%d texts, %d", len(list), fault)
	}
}

// P1: so it does with as many edges as there may be, along which there are more ways than could be gone.
func TestGreatWaysEnd(t *testing.T) {
	g := made(t, changePolicy)
	answers(t, g, "root", "CREATE (A)", "1")
	for range api.MaxEdges {
		answers(t, g, "root", "MATCH (a) CREATE (a)-[T]->(a)", "1")
	}
	for _, rest := range []string{"RETURN COUNT", "SET a.k=1", "DELETE a", "CREATE (a)-[T]->(b)"} {
		refuses(t, g, "root", "MATCH (a)-[T*4..4]->(b)-[T*4..4]->(c)-[T*4..4]->(d) "+rest, api.MaxBudget, api.ErrBudget)
	}
	answers(t, g, "root", "MATCH (a)-[T]->(b) DELETE b", "1")
	dumps(t, g)
}
