package read_test

import (
	"slices"
	"testing"

	"veil/api"
	"veil/query"
	"veil/read"
	"veil/store"
)

// graph has the nodes 1 A k=1 j=1, 2 B k=2, 3 A k=10 j=1, 4 A j=-1, 5 A k=1, and edges 1 T 2, 1 T 2, 2 T 3.
func graph() *store.Graph {
	g := &store.Graph{}
	g.Add("A", map[string]int{"k": 1, "j": 1})
	g.Add("B", map[string]int{"k": 2})
	g.Add("A", map[string]int{"k": 10, "j": 1})
	g.Add("A", map[string]int{"j": -1})
	g.Add("A", map[string]int{"k": 1})
	g.Edges = []store.Edge{{Type: "T", From: 1, To: 2}, {Type: "T", From: 1, To: 2}, {Type: "T", From: 2, To: 3}}
	return g
}

func answer(t *testing.T, text string, budget int) ([]string, api.Errno) {
	t.Helper()
	q, fault := query.Parse(text)
	if fault != api.OK {
		t.Fatalf("Parse(%q) = %d", text, fault)
	}
	return read.Answer(graph(), q, budget)
}

func check(t *testing.T, text string, want ...string) {
	t.Helper()
	if got, fault := answer(t, text, api.MaxBudget); fault != api.OK || !slices.Equal(got, want) {
		t.Errorf("%s: %q, %d, want %q", text, got, fault, want)
	}
}

func TestItems(t *testing.T) {
	check(t, "MATCH (a) RETURN a", "1", "2", "3", "4", "5")
	check(t, "MATCH (a) RETURN a.k,a", "-|4", "1|1", "1|5", "2|2", "10|3")
	check(t, "MATCH (a) RETURN a.k", "-", "1", "1", "2", "10")
	check(t, "MATCH (a) RETURN a.x,a.j,a.x", "-|-|-", "-|-|-", "-|-1|-", "-|1|-", "-|1|-")
	check(t, "MATCH (a)-[T]->(b) RETURN b,a,b.k", "2|1|2", "2|1|2", "3|2|10")
	check(t, "MATCH (a:B) RETURN a,a,a,a,a,a", "2|2|2|2|2|2")
	check(t, "MATCH (a:C) RETURN a")
	check(t, "MATCH (a),(b:B) WHERE a.k<b.k RETURN a,b", "1|2", "5|2")
}

func TestOrder(t *testing.T) {
	check(t, "MATCH (a) RETURN a,a.k ORDER BY 2", "4|-", "1|1", "5|1", "2|2", "3|10")
	check(t, "MATCH (a) RETURN a,a.k ORDER BY 2 DESC", "3|10", "2|2", "1|1", "5|1", "4|-")
	check(t, "MATCH (a) RETURN a,a.k ORDER BY 1 DESC", "5|1", "4|-", "3|10", "2|2", "1|1")
	// where they agree, all other items go up, NULL ahead, whichever way the first goes
	check(t, "MATCH (a) RETURN a.j,a.k,a ORDER BY 1 DESC", "1|1|1", "1|10|3", "-1|-|4", "-|1|5", "-|2|2")
	check(t, "MATCH (a) RETURN a.k,a.j,a ORDER BY 2 DESC", "1|1|1", "10|1|3", "-|-1|4", "1|-|5", "2|-|2")
	check(t, "MATCH (a:A) RETURN a.x,a.j,a.k ORDER BY 1 DESC", "-|-|1", "-|-1|-", "-|1|1", "-|1|10")
}

func TestSkipAndLimit(t *testing.T) {
	check(t, "MATCH (a) RETURN a SKIP 0", "1", "2", "3", "4", "5")
	check(t, "MATCH (a) RETURN a SKIP 3", "4", "5")
	check(t, "MATCH (a) RETURN a SKIP 5")
	check(t, "MATCH (a) RETURN a SKIP 6")
	check(t, "MATCH (a) RETURN a SKIP 1000000000 LIMIT 1000000000")
	check(t, "MATCH (a) RETURN a LIMIT 0")
	check(t, "MATCH (a) RETURN a LIMIT 2", "1", "2")
	check(t, "MATCH (a) RETURN a LIMIT 5", "1", "2", "3", "4", "5")
	check(t, "MATCH (a) RETURN a LIMIT 6", "1", "2", "3", "4", "5")
	check(t, "MATCH (a) RETURN a SKIP 1 LIMIT 2", "2", "3")
	check(t, "MATCH (a) RETURN a SKIP 4 LIMIT 2", "5")
	check(t, "MATCH (a) RETURN a ORDER BY 1 DESC SKIP 1 LIMIT 2", "4", "3")
}

func TestCount(t *testing.T) {
	check(t, "MATCH (a) RETURN COUNT", "5")
	check(t, "MATCH (a) RETURN COUNT,COUNT", "5|5")
	check(t, "MATCH (a:C) RETURN COUNT", "0")
	check(t, "MATCH (a:C) RETURN COUNT,COUNT,COUNT", "0|0|0")
	check(t, "MATCH (a:C) RETURN COUNT,a")
	check(t, "MATCH (a:C) RETURN a.k,COUNT")
	check(t, "MATCH (a) WHERE 1=2 RETURN COUNT", "0")
	check(t, "MATCH (a:C) RETURN COUNT SKIP 1")
	check(t, "MATCH (a:C) RETURN COUNT LIMIT 0")
	check(t, "MATCH (a) RETURN COUNT SKIP 1")
	check(t, "MATCH (a) RETURN a.k,COUNT", "-|1", "1|2", "2|1", "10|1")
	check(t, "MATCH (a) RETURN COUNT,a.k", "1|-", "1|2", "1|10", "2|1")
	check(t, "MATCH (a) RETURN COUNT,a.k,COUNT ORDER BY 3 DESC", "2|1|2", "1|-|1", "1|2|1", "1|10|1")
	check(t, "MATCH (a) RETURN a.k,COUNT ORDER BY 2 SKIP 1 LIMIT 3", "2|1", "10|1", "1|2")
	check(t, "MATCH (a) RETURN a.j,a.k,COUNT", "-|1|1", "-|2|1", "-1|-|1", "1|1|1", "1|10|1")
	check(t, "MATCH (a) RETURN a.x,COUNT", "-|5")
	check(t, "MATCH (a)-[T]->(b) RETURN a,b,COUNT", "1|2|2", "2|3|1")
	check(t, "MATCH (a),(b) RETURN a.j,COUNT", "-|10", "-1|5", "1|10")
}

func TestBudget(t *testing.T) {
	for _, c := range []struct {
		text string
		cost int
	}{{"MATCH (a) RETURN a", 5}, {"MATCH (a) RETURN COUNT LIMIT 0", 5}, {"MATCH (a)-[T]->(b) WHERE 1=2 RETURN COUNT", 11}, {"MATCH (a:C) RETURN a", 0}} {
		if _, fault := answer(t, c.text, c.cost); fault != api.OK {
			t.Errorf("%s with %d: %d", c.text, c.cost, fault)
		}
		if got, fault := answer(t, c.text, c.cost-1); fault != api.ErrBudget || got != nil {
			t.Errorf("%s with %d: %q, %d", c.text, c.cost-1, got, fault)
		}
	}
}

// The order in which a map is gone through is not to be seen.
func TestSameEachTime(t *testing.T) {
	const text = "MATCH (a),(b) RETURN a.k,b.j,COUNT ORDER BY 3"
	first, _ := answer(t, text, api.MaxBudget)
	for range 50 {
		if again, _ := answer(t, text, api.MaxBudget); !slices.Equal(first, again) {
			t.Fatalf("%q, then %q", first, again)
		}
	}
}
