package veil_test

import (
	"strconv"
	"testing"

	"veil/api"
	"veil/veil"
)

// P11 and P12 package change tests in full; here that Run heeds them, and the budget, and what comes of several changes together.

const changePolicy = "role root\nsee A\nsee B\nsee H\nread A.k\nread A.j\nread B.k\nread H.k\nwalk T\nwalk U\nmake A\nmake B\nmake H\nset A.k\nset A.j\nset B.k\nset H.k\ndrop A\ndrop B\ndrop H\nlink T\nlink U\ncut T\ncut U\n" +
	"role guest\nsee A\nsee B\nread A.k\nwalk T\nset A.k\nset A.j\ndrop B\nlink T\ncut T\n" +
	"role ann\nsee A\nsee B\ndrop A\ndrop B\ndetach"

// chained makes the nodes 1 A k=1, 2 B, 3 A k=3, 4 H, and T from 1 to 2, 2 to 3, 3 to 4, U from 1 to 3.
func chained(t *testing.T) *veil.Graph {
	t.Helper()
	g := made(t, changePolicy)
	for i, text := range []string{"CREATE (A {k:1})", "CREATE (B)", "CREATE (A {k:3})", "CREATE (H)"} {
		answers(t, g, "root", text, strconv.Itoa(i+1))
	}
	answers(t, g, "root", "MATCH (a:A),(b:B) WHERE a.k=1 CREATE (a)-[T]->(b)", "1")
	answers(t, g, "root", "MATCH (b:B),(a:A) WHERE a.k=3 CREATE (b)-[T]->(a)", "1")
	answers(t, g, "root", "MATCH (h:H),(a:A) WHERE a.k=3 CREATE (a)-[T]->(h)", "1")
	answers(t, g, "root", "MATCH (b:A),(a:A) WHERE a.k<b.k CREATE (a)-[U]->(b)", "1")
	dumps(t, g, "1 A k=1", "2 B", "3 A k=3", "4 H", "1 T 2", "2 T 3", "3 T 4", "1 U 3")
	return g
}

// The document's example.
func TestExample(t *testing.T) {
	g := made(t, "role root\nsee A\nsee B\nwalk T\nread A.k\nmake A\nmake B\nset A.k\nlink T")
	answers(t, g, "root", "CREATE (A {k : 5})", "1")
	answers(t, g, "root", "CREATE (B)", "2")
	refuses(t, g, "root", "MATCH (a:A),(b:B) CREATE (a)-[T]->(b)", 1, api.ErrBudget)
	if got, fault := g.Run("root", "MATCH (a:A),(b:B) CREATE (a)-[T]->(b)", 2); fault != api.OK || len(got) != 1 || got[0] != "1" {
		t.Errorf("the link: %q, %d", got, fault)
	}
	const text = "MATCH (a)-[T]->(b) RETURN a,a.k,b,b.k"
	answers(t, g, "root", text, "1|5|2|-")
	refuses(t, g, "root", text, 3, api.ErrBudget)
	if got, fault := g.Run("root", text, 4); fault != api.OK || len(got) != 1 {
		t.Errorf("with 4: %q, %d", got, fault)
	}
	dumps(t, g, "1 A k=5", "2 B", "1 T 2")
}

// P8: ErrBudget comes ahead of ErrDenied, and that ahead of ErrFull, whatever the change.
func TestChangeErrorsInOrder(t *testing.T) {
	g := chained(t)
	for range 19 {
		answers(t, g, "root", "MATCH (a) CREATE (a)-[U]->(a)", "4")
	}
	const link = "MATCH (a),(b) CREATE (a)-[T]->(b)"
	refuses(t, g, "ann", link, 11, api.ErrBudget)
	refuses(t, g, "ann", link, 12, api.ErrDenied)
	refuses(t, g, "guest", link, 11, api.ErrBudget)
	refuses(t, g, "guest", link, 12, api.ErrFull)
	refuses(t, g, "guest", link, 1<<40, api.ErrFull)
	refuses(t, g, "root", "MATCH (a:B) CREATE (a)-[T]->(a)", 1, api.ErrFull)
	refuses(t, g, "ann", "MATCH (a) SET a.k=1", 2, api.ErrBudget)
	refuses(t, g, "ann", "MATCH (a) SET a.k=1", 3, api.ErrDenied)
	refuses(t, g, "guest", "MATCH (a) DELETE a", 2, api.ErrBudget)
	refuses(t, g, "guest", "MATCH (a) DELETE a", 3, api.ErrDenied)
	refuses(t, g, "guest", "MATCH (a) DELETE b", 0, api.ErrScope)
	refuses(t, g, "guest", "MATCH (a),(b) SET a.k=b.k", 0, api.ErrScope)
	refuses(t, g, "guest", "MATCH (a) CREATE (a)-[T]->(b)", 0, api.ErrScope)
	refuses(t, g, "nobody", "MATCH (a) DELETE a", 5, api.ErrRole)
}

// P11: no number is given again, neither of a node nor of an edge: a new edge stands behind all others.
func TestNumbersBehindDeletes(t *testing.T) {
	g := chained(t)
	answers(t, g, "root", "MATCH (a:H) DELETE a", "1")
	answers(t, g, "root", "CREATE (H)", "5")
	answers(t, g, "root", "MATCH (a:A) WHERE a.k=1 DELETE a", "1")
	answers(t, g, "root", "MATCH (h:H),(a:A) CREATE (h)-[T]->(a)", "1")
	answers(t, g, "root", "CREATE (A)", "6")
	answers(t, g, "root", "MATCH (h:H),(b:B) CREATE (b)-[U]->(h)", "1")
	dumps(t, g, "2 B", "3 A k=3", "5 H", "6 A", "2 T 3", "5 T 3", "2 U 5")
	answers(t, g, "root", "MATCH (a) DELETE a", "4")
	dumps(t, g)
	answers(t, g, "root", "CREATE (B {k:1})", "7")
	dumps(t, g, "7 B k=1")
}

// P11, P12: where there was too much, there is room again when something is gone.
func TestRoomBehindDeletes(t *testing.T) {
	g := made(t, changePolicy)
	for i := range api.MaxNodes {
		answers(t, g, "root", "CREATE (A {k:"+strconv.Itoa(i)+"})", strconv.Itoa(i+1))
	}
	answers(t, g, "root", "MATCH (a) CREATE (a)-[T]->(a)", "40")
	answers(t, g, "root", "MATCH (a) CREATE (a)-[U]->(a)", "40")
	refuses(t, g, "root", "CREATE (B)", 1, api.ErrFull)
	refuses(t, g, "root", "MATCH (a) WHERE a.k=0 CREATE (a)-[T]->(a)", 40, api.ErrFull)
	answers(t, g, "root", "MATCH (a) WHERE a.k=7 DELETE a", "1")
	answers(t, g, "root", "MATCH (a) WHERE a.k=0 CREATE (a)-[T]->(a)", "1")
	answers(t, g, "root", "CREATE (B)", "41")
	refuses(t, g, "root", "CREATE (B)", 1, api.ErrFull)
	answers(t, g, "root", "MATCH (b:B) CREATE (b)-[T]->(b)", "1")
	refuses(t, g, "root", "MATCH (b:B) CREATE (b)-[T]->(b)", 1, api.ErrFull)
}

// P11: a set reads what the role saw ahead of the query, of each node its own.
func TestSetByRoles(t *testing.T) {
	g := chained(t)
	answers(t, g, "guest", "MATCH (a:A) SET a.j=a.k", "2")
	answers(t, g, "guest", "MATCH (a:A) WHERE a.k=1 SET a.k=a.j", "1") // j is NULL to the guest
	answers(t, g, "root", "MATCH (a:A)-[T*0..3]->(b) SET a.j=-5", "2")
	dumps(t, g, "1 A j=-5", "2 B", "3 A j=-5 k=3", "4 H", "1 T 2", "2 T 3", "3 T 4", "1 U 3")
	refuses(t, g, "guest", "MATCH (a) SET a.k=1", 5, api.ErrDenied)
	answers(t, g, "guest", "MATCH (h:H) SET h.k=1", "0")
}

// P12: what of the edges a role sees hangs on its own rights.
func TestDeleteByRoles(t *testing.T) {
	g := chained(t)
	answers(t, g, "guest", "MATCH (b:B) DELETE b", "1")
	dumps(t, g, "1 A k=1", "3 A k=3", "4 H", "3 T 4", "1 U 3")
	refuses(t, g, "guest", "MATCH (a:A) DELETE a", 5, api.ErrDenied)
	answers(t, g, "ann", "MATCH (a:A) DELETE a", "2")
	dumps(t, g, "4 H")
}
