package sight_test

import (
	"reflect"
	"testing"

	"veil/rights"
	"veil/sight"
	"veil/store"
)

func node(number int, label string, props map[string]int) store.Node {
	return store.Node{Number: number, Label: label, Props: props}
}

func edge(kind string, from, to int) store.Edge {
	return store.Edge{Type: kind, From: from, To: to}
}

// whole is a graph with three labels, and with edges of two types among them.
func whole() *store.Graph {
	g := &store.Graph{}
	g.Add("A", map[string]int{"k": 1, "j": 2})
	g.Add("B", map[string]int{"k": 3, "j": 4})
	g.Add("H", map[string]int{"k": 5})
	g.Add("A", map[string]int{})
	g.Edges = []store.Edge{edge("T", 1, 2), edge("U", 1, 2), edge("T", 1, 3), edge("T", 3, 1), edge("T", 3, 3), edge("T", 4, 4), edge("T", 2, 1), edge("T", 1, 2)}
	return g
}

func seen(t *testing.T, policy string) *store.Graph {
	t.Helper()
	p, ok := rights.Parse("role a\n" + policy)
	if !ok {
		t.Fatalf("policy %q", policy)
	}
	role, _ := p.Role("a")
	return sight.Of(whole(), role)
}

func TestOf(t *testing.T) {
	type props = map[string]int
	for _, c := range []struct {
		policy string
		nodes  []store.Node
		edges  []store.Edge
	}{
		{"", nil, nil},
		{"walk T\nread A.k\nmake A\nset A.k\ndrop A\nlink T\ncut T\ndetach\ncall v", nil, nil},
		{"see C", nil, nil},
		{"see A", []store.Node{node(1, "A", props{}), node(4, "A", props{})}, nil},
		{"see H\nread H.k\nread A.k", []store.Node{node(3, "H", props{"k": 5})}, nil},
		{"see A\nread A.j\nread B.j\nread A.x\nwalk T", []store.Node{node(1, "A", props{"j": 2}), node(4, "A", props{})}, []store.Edge{edge("T", 4, 4)}},
		{"see A\nsee B\nread B.k\nwalk T", []store.Node{node(1, "A", props{}), node(2, "B", props{"k": 3}), node(4, "A", props{})}, []store.Edge{edge("T", 1, 2), edge("T", 4, 4), edge("T", 2, 1), edge("T", 1, 2)}},
		{"see A\nsee B\nwalk U", []store.Node{node(1, "A", props{}), node(2, "B", props{}), node(4, "A", props{})}, []store.Edge{edge("U", 1, 2)}},
		{"see A\nsee B\nset A.k\nlink T\ncut T", []store.Node{node(1, "A", props{}), node(2, "B", props{}), node(4, "A", props{})}, nil},
	} {
		g := seen(t, c.policy)
		if len(g.Nodes)+len(c.nodes) > 0 && !reflect.DeepEqual(g.Nodes, c.nodes) {
			t.Errorf("%q: nodes %v, want %v", c.policy, g.Nodes, c.nodes)
		}
		if len(g.Edges)+len(c.edges) > 0 && !reflect.DeepEqual(g.Edges, c.edges) {
			t.Errorf("%q: edges %v, want %v", c.policy, g.Edges, c.edges)
		}
	}
}

// Who sees all, sees the graph itself.
func TestAllOf(t *testing.T) {
	g := seen(t, "see A\nsee B\nsee H\nwalk T\nwalk U\nread A.k\nread A.j\nread B.k\nread B.j\nread H.k")
	if !reflect.DeepEqual(g.Nodes, whole().Nodes) || !reflect.DeepEqual(g.Edges, whole().Edges) {
		t.Errorf("%v, want %v", g, whole())
	}
}

// What is seen is a copy: whoever changes it does not change what is there.
func TestOfIsACopy(t *testing.T) {
	p, _ := rights.Parse("role a\nsee A\nread A.k\nwalk T")
	role, _ := p.Role("a")
	all := whole()
	g := sight.Of(all, role)
	g.Nodes[0].Props["k"] = 99
	g.Nodes[0].Label = "X"
	g.Edges[0].Type = "X"
	if !reflect.DeepEqual(all, whole()) {
		t.Errorf("%v, want %v", all, whole())
	}
}

// An edge is seen, if its type may be walked and both its ends are seen, whether it is there by now or not.
func TestHasEdge(t *testing.T) {
	p, _ := rights.Parse("role a\nsee A\nsee B\nwalk T\ncut U\ndetach")
	role, _ := p.Role("a")
	nodes := sight.Of(whole(), role)
	for _, c := range []struct {
		edge store.Edge
		want bool
	}{
		{edge("T", 1, 2), true}, {edge("T", 4, 4), true}, {edge("T", 4, 2), true}, {edge("U", 1, 2), false}, {edge("T", 1, 3), false}, {edge("T", 3, 1), false}, {edge("T", 3, 3), false}, {edge("T", 1, 5), false},
	} {
		if got := sight.HasEdge(nodes, role, c.edge); got != c.want {
			t.Errorf("HasEdge(%v) = %v", c.edge, got)
		}
	}
}
