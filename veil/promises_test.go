package veil_test

import (
	"slices"
	"strings"
	"testing"

	"veil/api"
	"veil/veil"
)

// P2: what a call answers depends on its arguments and the calls ahead of it on the same graph alone.
func TestGraphsStandAlone(t *testing.T) {
	a, b := made(t, twoRoles), made(t, twoRoles)
	answers(t, a, "root", "CREATE (A)", "1")
	dumps(t, b)
	answers(t, b, "root", "CREATE (B {k:3})", "1")
	answers(t, a, "root", "CREATE (A)", "2")
	dumps(t, a, "1 A", "2 A")
	dumps(t, b, "1 B k=3")
	for range 3 {
		answers(t, b, "root", "MATCH (a) RETURN a,a.k", "1|3")
	}
	dumps(t, b, "1 B k=3")
}

// overwrite writes into a list and into its spare room.
func overwrite(list []string) {
	for i := range list[:cap(list)] {
		list[:cap(list)][i] = "overwritten"
	}
}

// P2: each list that comes out is new memory, its spare room too.
func TestAnswersAreNewMemory(t *testing.T) {
	g := made(t, twoRoles)
	for range 2 {
		for _, text := range []string{"CREATE (A {k:1})", "MATCH (a) RETURN a LIMIT 1", "MATCH (a) RETURN a.k,COUNT SKIP 0", "MATCH (a) RETURN a SKIP 9"} {
			list, fault := g.Run("root", text, api.MaxBudget)
			if fault != api.OK {
				t.Fatalf("Run(%q) = %d", text, fault)
			}
			overwrite(list)
		}
		overwrite(g.Dump())
		overwrite(g.Audit())
	}
	answers(t, g, "root", "MATCH (a) RETURN a,a.k", "1|1", "2|1")
	dumps(t, g, "1 A k=1", "2 A k=1")
}

// P1: every call ends and none panics; beside an error there is nothing else, and nothing has changed.
func FuzzRun(f *testing.F) {
	for _, text := range []string{"", "CREATE (A {k:1})", "MATCH (a)-[T*0..4]->(b),(c) WHERE a.k>=1 RETURN a,b.k,COUNT ORDER BY 2 DESC SKIP 1 LIMIT 5", "MATCH (a),(b),(c),(d),(e),(f) RETURN COUNT", "MATCH (a) SET a.k=5", "MATCH (a) DELETE a", "MATCH (a),(b) CREATE (a)-[T]->(b)", "CALL v", "\x00\xff"} {
		f.Add(twoRoles, "root", text, 5000)
		f.Add(text, text, text, -1)
		f.Add("role a\nsee A\nmake A\nset A.k\nwalk T", "a", text, 1<<62)
	}
	f.Fuzz(func(t *testing.T, policy, role, text string, budget int) {
		g, fault := veil.New(policy)
		if fault != api.OK {
			if g != nil || fault != api.ErrPolicy {
				t.Fatalf("New = %v, %d", g, fault)
			}
			return
		}
		for range 3 {
			before := g.Dump()
			list, fault := g.Run(role, text, budget)
			if fault != api.OK && (list != nil || !slices.Equal(before, g.Dump())) {
				t.Fatalf("Run = %q, %d, Dump %q, ahead %q", list, fault, g.Dump(), before)
			}
			if len(g.Dump()) > api.MaxNodes+api.MaxEdges || len(list) > api.MaxBudget+1 {
				t.Fatalf("Run = %d texts, Dump %d", len(list), len(g.Dump()))
			}
		}
	})
}

// P1: with as many nodes as there may be, even the greatest query ends soon.
func TestGreatQueriesEnd(t *testing.T) {
	g := made(t, twoRoles)
	for range api.MaxNodes {
		g.Run("root", "CREATE (A {k:1})", 1)
	}
	refuses(t, g, "root", "MATCH (a),(b),(c),(d),(e),(f) WHERE a.k=b.k AND c.k=d.k RETURN a,b,c,d,e,f", api.MaxBudget, api.ErrBudget)
	list, fault := g.Run("root", "MATCH (a),(b) RETURN a,b,a.k,b.k,COUNT,COUNT ORDER BY 5 DESC", api.MaxBudget)
	if fault != api.OK || len(list) != 1600 || strings.Count(list[0], "|") != 5 {
		t.Errorf("%d texts, %d", len(list), fault)
	}
}
