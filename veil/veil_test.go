package veil_test

import (
	"math"
	"slices"
	"strconv"
	"strings"
	"testing"

	"veil/api"
	"veil/veil"
)

func made(t *testing.T, policy string) *veil.Graph {
	t.Helper()
	g, fault := veil.New(policy)
	if g == nil || fault != api.OK {
		t.Fatalf("New(%q) = %v, %d", policy, g, fault)
	}
	return g
}

// answers: Run must answer so.
func answers(t *testing.T, g *veil.Graph, role, text string, want ...string) {
	t.Helper()
	if got, fault := g.Run(role, text, api.MaxBudget); fault != api.OK || !slices.Equal(got, want) {
		t.Errorf("Run(%s, %q) = %q, %d, want %q", role, text, got, fault, want)
	}
}

// refuses: Run must answer this error, nothing beside it, and change nothing.
func refuses(t *testing.T, g *veil.Graph, role, text string, budget int, want api.Errno) {
	t.Helper()
	before := g.Dump()
	if got, fault := g.Run(role, text, budget); fault != want || got != nil {
		t.Errorf("Run(%s, %q, %d) = %q, %d, want %d", role, text, budget, got, fault, want)
	}
	dumps(t, g, before...)
}

func dumps(t *testing.T, g *veil.Graph, want ...string) {
	t.Helper()
	if got := g.Dump(); !slices.Equal(got, want) {
		t.Errorf("Dump() = %q, want %q", got, want)
	}
}

// P7: what a policy is, package rights tests in full; here that New heeds it.
func TestNew(t *testing.T) {
	for _, policy := range []string{"", "role a", "role a\nsee A\nread A.k\ncall v\ndetach\n"} {
		dumps(t, made(t, policy))
	}
	for _, policy := range []string{"\n", "see A", "role a\nrole a", "role a\nsee a", strings.Repeat("x", 2001)} {
		if g, fault := veil.New(policy); g != nil || fault != api.ErrPolicy {
			t.Errorf("New(%.20q) = %v, %d", policy, g, fault)
		}
	}
}

const twoRoles = "role root\nsee A\nsee B\nsee H\nread A.k\nread A.j\nread B.k\nread H.k\nmake A\nmake B\nmake H\nset A.k\nset A.j\nset B.k\nset H.k\n" +
	"role guest\nsee A\nsee B\nread A.k\nread H.k\nmake B\nset A.k\nset H.k"

// P8: the errors in their order, each where all that come behind it would apply too.
func TestErrorsInOrder(t *testing.T) {
	g := made(t, twoRoles)
	for range api.MaxNodes {
		g.Run("root", "CREATE (A)", 1)
	}
	refuses(t, g, "nobody", "MATCH (a) RETURN", 0, api.ErrRole)
	refuses(t, g, "", "", 0, api.ErrRole)
	refuses(t, g, "Root", "CREATE (A)", 0, api.ErrRole)
	refuses(t, g, "guest", "MATCH (a) RETURN", 0, api.ErrSyntax)
	refuses(t, g, "guest", "", 0, api.ErrSyntax)
	refuses(t, g, "guest", strings.Repeat(" ", 2001), 0, api.ErrSyntax)
	refuses(t, g, "guest", "MATCH (a) RETURN b", 0, api.ErrScope)
	refuses(t, g, "guest", "CREATE (A)", 0, api.ErrBudget)
	refuses(t, g, "guest", "MATCH (a) RETURN a", 39, api.ErrBudget)
	refuses(t, g, "guest", "CREATE (A)", 1, api.ErrDenied)
	refuses(t, g, "guest", "CREATE (B)", 1, api.ErrFull)
	refuses(t, made(t, ""), "root", "CREATE (A)", 5, api.ErrRole)
}

// P8: a budget below 0 counts as 0.
func TestBudgetsBelowNone(t *testing.T) {
	g := made(t, twoRoles)
	answers(t, g, "root", "CREATE (A)", "1")
	for _, budget := range []int{0, -1, math.MinInt} {
		refuses(t, g, "root", "MATCH (a) RETURN a", budget, api.ErrBudget)
		refuses(t, g, "root", "CREATE (A)", budget, api.ErrBudget)
		if got, fault := g.Run("root", "MATCH (a:H) RETURN COUNT", budget); fault != api.OK || !slices.Equal(got, []string{"0"}) {
			t.Errorf("what costs nothing, with %d: %q, %d", budget, got, fault)
		}
	}
}

// P8: a budget above MaxBudget counts as MaxBudget.
func TestBudgetsAboveAll(t *testing.T) {
	g := made(t, twoRoles)
	for i := range 39 {
		label := "H"
		if i < 8 {
			label = "A"
		} else if i < 8+15 {
			label = "B"
		}
		answers(t, g, "root", "CREATE ("+label+")", strconv.Itoa(i+1))
	}
	const text = "MATCH (a:A),(b),(c:B) RETURN COUNT"
	for _, budget := range []int{5000, 5001, math.MaxInt} { // 8 + 8*39 + 8*39*15 = 5000
		if got, fault := g.Run("root", text, budget); fault != api.OK || !slices.Equal(got, []string{"4680"}) {
			t.Errorf("with %d: %q, %d", budget, got, fault)
		}
	}
	refuses(t, g, "root", text, 4999, api.ErrBudget)
	answers(t, g, "root", "CREATE (H)", "40")
	for _, budget := range []int{5000, 5001, 6000, math.MaxInt} { // 8 + 8*40 + 8*40*15 = 5128
		refuses(t, g, "root", text, budget, api.ErrBudget)
	}
}

// P11: a make, its rights and its answer.
func TestMake(t *testing.T) {
	g := made(t, twoRoles)
	refuses(t, g, "root", "CREATE (C)", 1, api.ErrDenied)
	refuses(t, g, "root", "CREATE (A {x:1})", 1, api.ErrDenied)
	refuses(t, g, "root", "CREATE (A {k:1,x:1})", 1, api.ErrDenied)
	refuses(t, g, "root", "CREATE (B {j:1})", 1, api.ErrDenied)
	refuses(t, g, "guest", "CREATE (A)", 1, api.ErrDenied)
	refuses(t, g, "guest", "CREATE (A {k:1})", 1, api.ErrDenied)
	refuses(t, g, "guest", "CREATE (B {k:1})", 1, api.ErrDenied)
	answers(t, g, "root", "CREATE (A {k:5,j:-7})", "1")
	answers(t, g, "guest", "CREATE (B)", "2")
	answers(t, g, "root", "CREATE (H {k:0})", "3")
	answers(t, g, "root", "CREATE (A {j:1000000000,k:-1000000000})", "4")
	dumps(t, g, "1 A j=-7 k=5", "2 B", "3 H k=0", "4 A j=1000000000 k=-1000000000")
}

// P11: who may make a node need not see it.
func TestMakeUnseen(t *testing.T) {
	g := made(t, "role a\nmake A\nset A.k")
	answers(t, g, "a", "CREATE (A {k:1})", "1")
	answers(t, g, "a", "MATCH (a) RETURN a")
	dumps(t, g, "1 A k=1")
}

func TestMakeUntilFull(t *testing.T) {
	g := made(t, twoRoles)
	var want []string
	for i := 1; i <= api.MaxNodes; i++ {
		answers(t, g, "root", "CREATE (H)", strconv.Itoa(i))
		want = append(want, strconv.Itoa(i)+" H")
	}
	refuses(t, g, "root", "CREATE (H)", 1, api.ErrFull)
	dumps(t, g, want...)
}

// P7, P9, P10: each role is answered what it sees.
func TestReadByRoles(t *testing.T) {
	g := made(t, twoRoles)
	for _, text := range []string{"CREATE (A {k:1,j:1})", "CREATE (B {k:2})", "CREATE (H {k:0})", "CREATE (A {j:1})"} {
		g.Run("root", text, 1)
	}
	answers(t, g, "root", "MATCH (a) RETURN a,a.k,a.j", "1|1|1", "2|2|-", "3|0|-", "4|-|1")
	answers(t, g, "guest", "MATCH (a) RETURN a,a.k,a.j", "1|1|-", "2|-|-", "4|-|-")
	answers(t, g, "guest", "MATCH (a:H) RETURN a.k,COUNT")
	answers(t, g, "guest", "MATCH (a) WHERE a.j IS NULL RETURN COUNT", "3")
	answers(t, g, "guest", "MATCH (a) WHERE a.j=1 RETURN a")
	answers(t, g, "guest", "MATCH (a),(b) WHERE a.k=b.k RETURN a,b", "1|1")
	answers(t, g, "root", "MATCH (a)-[T*0..2]->(b) RETURN a,b", "1|1", "2|2", "3|3", "4|4")
	refuses(t, g, "root", "MATCH (a) RETURN a", 3, api.ErrBudget)
	if got, fault := g.Run("guest", "MATCH (a) RETURN a", 3); fault != api.OK || len(got) != 3 {
		t.Errorf("Run with 3 = %q, %d", got, fault)
	}
}

// P14: keys are in the order of their bytes, numbers in decimal.
func TestDump(t *testing.T) {
	g := made(t, "role a\nmake A\nset A.b\nset A.aB\nset A.ab\nset A.a1\nset A.a\nset A.a10")
	dumps(t, g)
	answers(t, g, "a", "CREATE (A {b:0,ab:-1,aB:10,a10:-1000000000,a1:3,a:2})", "1")
	dumps(t, g, "1 A a=2 a1=3 a10=-1000000000 aB=10 ab=-1 b=0")
}
