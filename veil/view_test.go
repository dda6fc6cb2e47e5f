package veil_test

import (
	"math"
	"slices"
	"strconv"
	"strings"
	"testing"

	"veil/api"
	"veil/veil"
)

const viewPolicy = "role root\nsee A\nsee H\nread A.k\nread H.k\nwalk T\nmake A\nmake H\nset A.k\nset H.k\ndrop H\nlink T\ncut T\ncall v\n" +
	"role guest\nsee A\ncall v\ncall w\nrole ann\nsee A\nread A.k"

// viewed makes the nodes 1 A k=1, 2 H k=2, 3 A k=3, and T from 1 and 3 to 2.
func viewed(t *testing.T) *veil.Graph {
	t.Helper()
	g := made(t, viewPolicy)
	answers(t, g, "root", "CREATE (A {k:1})", "1")
	answers(t, g, "root", "CREATE (H {k:2})", "2")
	answers(t, g, "root", "CREATE (A {k:3})", "3")
	answers(t, g, "root", "MATCH (a:A),(h:H) CREATE (a)-[T]->(h)", "2")
	return g
}

func defines(t *testing.T, g *veil.Graph, name, role, text string, want api.Errno) {
	t.Helper()
	if fault := g.Define(name, role, text); fault != want {
		t.Errorf("Define(%q, %q, %.40q) = %d, want %d", name, role, text, fault, want)
	}
}

func audits(t *testing.T, g *veil.Graph, want ...string) {
	t.Helper()
	if got := g.Audit(); !slices.Equal(got, want) {
		t.Errorf("Audit() = %q, want %q", got, want)
	}
}

const anyRead = "MATCH (a) RETURN a"

// P13: the errors of Define in their order, each where all that come behind it would apply too; and a view that was refused is not there.
func TestDefineErrorsInOrder(t *testing.T) {
	g := viewed(t)
	for i := range api.MaxViews {
		defines(t, g, "x"+strconv.Itoa(i), "root", anyRead, api.OK)
	}
	defines(t, g, "X", "nobody", "", api.ErrRole)
	defines(t, g, "X", "", "", api.ErrRole)
	defines(t, g, "x0", "Root", anyRead, api.ErrRole)
	defines(t, g, "X", "root", "", api.ErrSyntax)
	defines(t, g, "X", "root", strings.Repeat(" ", 2001), api.ErrSyntax)
	defines(t, g, "x0", "root", "MATCH (a) RETURN b", api.ErrScope)
	for _, text := range []string{"MATCH (a) SET a.k=1", "MATCH (a) DELETE a", "MATCH (a) CREATE (a)-[T]->(a)", "CREATE (A)", "CALL x0"} {
		defines(t, g, "X", "root", text, api.ErrSyntax)
		defines(t, g, "x0", "root", text, api.ErrSyntax)
	}
	defines(t, g, "X", "root", anyRead, api.ErrView)
	defines(t, g, "x0", "root", anyRead, api.ErrView)
	defines(t, g, "v", "root", anyRead, api.ErrView)
	refuses(t, g, "root", "CALL v", api.MaxBudget, api.ErrView)
	audits(t, g)
}

// P13: views have names, each one once, whoever made it.
func TestDefineNames(t *testing.T) {
	g := viewed(t)
	for _, name := range []string{"", "V", "COUNT", "1", "1v", "v ", " v", "v w", "v.w", "abcdefghi", "v\n", "v\x00", "é", "-"} {
		defines(t, g, name, "root", anyRead, api.ErrView)
	}
	for _, name := range []string{"v", "abcdefgh", "count", "aB1"} {
		defines(t, g, name, "root", anyRead, api.OK)
		defines(t, g, name, "root", anyRead, api.ErrView)
		defines(t, g, name, "guest", "MATCH (a:A) RETURN COUNT", api.ErrView)
	}
	answers(t, g, "guest", "CALL v", "1", "2", "3")
}

func TestDefineUntilFull(t *testing.T) {
	g := viewed(t)
	for i := range api.MaxViews {
		defines(t, g, string(rune('a'+i)), "ann", anyRead, api.OK)
	}
	defines(t, g, "v", "ann", anyRead, api.ErrView)
	refuses(t, g, "guest", "CALL v", 5, api.ErrView)
}

// P13, P15: a view is asked with the eyes of its role, of the graph as it is when it is called.
func TestCall(t *testing.T) {
	g := viewed(t)
	const text = "MATCH (a)-[T]->(h:H) RETURN a,h.k ORDER BY 1 DESC"
	refuses(t, g, "guest", "CALL v", 5, api.ErrView)
	defines(t, g, "v", "root", text, api.OK)
	defines(t, g, "w", "ann", text, api.OK)
	answers(t, g, "guest", text)
	answers(t, g, "guest", "CALL v", "3|2", "1|2")
	answers(t, g, "guest", "CALL w")
	answers(t, g, "root", "CALL v", "3|2", "1|2")
	answers(t, g, "root", "MATCH (h:H) SET h.k=9", "1")
	answers(t, g, "guest", "CALL v", "3|9", "1|9")
	answers(t, g, "root", "MATCH (h:H) DELETE h", "1")
	answers(t, g, "guest", "CALL v")
	audits(t, g, "guest v", "guest w", "root v", "guest v", "guest v")
}

// P8, P13: the errors of a call in their order; what is refused ahead of the view is not written down, ErrBudget is.
func TestCallErrors(t *testing.T) {
	g := viewed(t)
	defines(t, g, "v", "root", anyRead, api.OK)
	defines(t, g, "w", "guest", anyRead, api.OK)
	defines(t, g, "u", "root", anyRead, api.OK)
	refuses(t, g, "nobody", "CALL v", 0, api.ErrRole)
	refuses(t, g, "guest", "CALL V", 0, api.ErrSyntax)
	refuses(t, g, "guest", "CALL", 0, api.ErrSyntax)
	refuses(t, g, "guest", "CALL x", 0, api.ErrView)
	refuses(t, g, "ann", "CALL x", 0, api.ErrView)
	refuses(t, g, "ann", "CALL v", 0, api.ErrDenied)
	refuses(t, g, "root", "CALL w", 0, api.ErrDenied)
	refuses(t, g, "root", "CALL u", 5, api.ErrDenied) // which is its own
	audits(t, g)
	refuses(t, g, "guest", "CALL v", 2, api.ErrBudget)
	audits(t, g, "guest v")
	refuses(t, g, "guest", "CALL w", 1, api.ErrBudget)
	refuses(t, g, "guest", "CALL w", math.MinInt, api.ErrBudget)
	audits(t, g, "guest v", "guest w", "guest w")
}

// P9: a call costs what its view's match costs, in the view's role.
func TestCallCosts(t *testing.T) {
	g := viewed(t)
	defines(t, g, "v", "root", "MATCH (a)-[T]->(b) WHERE 1=2 RETURN COUNT", api.OK)
	defines(t, g, "w", "ann", "MATCH (a)-[T]->(b) WHERE 1=2 RETURN COUNT", api.OK)
	for name, cost := range map[string]int{"v": 3 + 2 + 2, "w": 2} {
		for budget := range 10 {
			got, fault := g.Run("guest", "CALL "+name, budget)
			if budget < cost && (fault != api.ErrBudget || got != nil) || budget >= cost && (fault != api.OK || !slices.Equal(got, []string{"0"})) {
				t.Errorf("CALL %s with %d: %q, %d", name, budget, got, fault)
			}
		}
	}
	defines(t, g, "x", "root", "MATCH (a:C) RETURN COUNT", api.OK)
	if got, fault := made(t, "role a\ncall x").Run("a", "CALL x", 5); got != nil || fault != api.ErrView {
		t.Errorf("a view of another graph: %q, %d", got, fault)
	}
}

// P13: the audit has all calls, however many, as they came.
func TestAudit(t *testing.T) {
	g := viewed(t)
	audits(t, g)
	defines(t, g, "v", "ann", anyRead, api.OK)
	defines(t, g, "w", "ann", anyRead, api.OK)
	var want []string
	for i := range 300 {
		role, name := []string{"guest", "root", "guest", "ann"}[i%4], []string{"v", "v", "w", "v"}[i%4]
		if _, fault := g.Run(role, "CALL "+name, i%5); role != "ann" {
			want = append(want, role+" "+name)
		} else if fault != api.ErrDenied {
			t.Fatalf("ann's call: %d", fault)
		}
		if i%50 == 0 {
			audits(t, g, want...)
		}
	}
	audits(t, g, want...)
}
