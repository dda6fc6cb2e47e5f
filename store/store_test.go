package store_test

import (
	"slices"
	"testing"

	"veil/store"
)

func TestAddCountsOn(t *testing.T) {
	var g store.Graph
	for want := 1; want <= 3; want++ {
		if got := g.Add("A", nil); got != want {
			t.Errorf("Add = %d, want %d", got, want)
		}
	}
	g.Nodes = g.Nodes[:1]
	if got := g.Add("B", map[string]int{"k": 5}); got != 4 {
		t.Errorf("Add behind a node that is gone = %d, want 4", got)
	}
	for number, label := range map[int]string{1: "A", 4: "B"} {
		if node, there := g.Node(number); !there || node.Number != number || node.Label != label {
			t.Errorf("Node(%d) = %v, %v", number, node, there)
		}
	}
	for _, number := range []int{-1, 0, 2, 3, 5} {
		if node, there := g.Node(number); there || node.Number != 0 {
			t.Errorf("Node(%d) = %v, %v", number, node, there)
		}
	}
}

func TestValue(t *testing.T) {
	var g store.Graph
	g.Add("A", map[string]int{"k": 5, "z": 0})
	g.Add("A", nil)
	for _, c := range []struct {
		number int
		key    string
		want   store.Value
	}{{1, "k", store.Number(5)}, {1, "z", store.Number(0)}, {1, "j", store.Value{}}, {2, "k", store.Value{}}, {3, "k", store.Value{}}} {
		if got := g.Value(c.number, c.key); got != c.want {
			t.Errorf("Value(%d, %q) = %v, want %v", c.number, c.key, got, c.want)
		}
	}
}

func TestValuesInOrder(t *testing.T) {
	values := []store.Value{{}, store.Number(-1000000000), store.Number(-1), store.Number(0), store.Number(9), store.Number(10)}
	texts := []string{"-", "-1000000000", "-1", "0", "9", "10"}
	for i, a := range values {
		if a.Text() != texts[i] {
			t.Errorf("Text of %v = %q, want %q", a, a.Text(), texts[i])
		}
		for j, b := range values {
			if got := store.Compare(a, b); got < 0 != (i < j) || got > 0 != (i > j) {
				t.Errorf("Compare(%v, %v) = %d", a, b, got)
			}
		}
	}
}

func TestSet(t *testing.T) {
	var g store.Graph
	g.Add("A", map[string]int{"k": 5})
	g.Add("A", map[string]int{"k": 6})
	for _, value := range []store.Value{store.Number(0), store.Number(-7), {}, {}, store.Number(8)} {
		g.Set(1, "k", value)
		g.Set(1, "j", value)
		if g.Value(1, "k") != value || g.Value(1, "j") != value || g.Value(2, "k") != store.Number(6) {
			t.Errorf("Set to %v: %v", value, g)
		}
		if !value.Some && len(g.Nodes[0].Props) != 0 {
			t.Errorf("set to NULL, there is %v", g.Nodes[0].Props)
		}
	}
	g.Set(3, "k", store.Number(1))
	g.Set(0, "k", store.Value{})
	if len(g.Nodes) != 2 {
		t.Errorf("set where there is no node: %v", g)
	}
}

func TestLinkAndDrop(t *testing.T) {
	ends := [][2]int{{1, 2}, {2, 3}, {3, 1}, {4, 4}, {3, 4}, {3, 4}}
	for _, c := range []struct {
		dropped, nodes []int
		edges          []int // their places
	}{
		{nil, []int{1, 2, 3, 4}, []int{0, 1, 2, 3, 4, 5}},
		{[]int{1}, []int{2, 3, 4}, []int{1, 3, 4, 5}},
		{[]int{2}, []int{1, 3, 4}, []int{2, 3, 4, 5}},
		{[]int{4}, []int{1, 2, 3}, []int{0, 1, 2}},
		{[]int{1, 2}, []int{3, 4}, []int{3, 4, 5}},
		{[]int{3, 5}, []int{1, 2, 4}, []int{0, 3}},
		{[]int{1, 2, 3, 4}, nil, nil},
	} {
		var g store.Graph
		for range 4 {
			g.Add("A", map[string]int{})
		}
		for _, e := range ends {
			g.Link("T", e[0], e[1])
		}
		g.Drop(c.dropped)
		var nodes []int
		for _, n := range g.Nodes {
			nodes = append(nodes, n.Number)
		}
		var edges []store.Edge
		for _, i := range c.edges {
			edges = append(edges, store.Edge{Type: "T", From: ends[i][0], To: ends[i][1]})
		}
		if !slices.Equal(nodes, c.nodes) || !slices.Equal(g.Edges, edges) {
			t.Errorf("Drop(%v) leaves %v", c.dropped, g)
		}
		if got := g.Add("B", nil); got != 5 {
			t.Errorf("Add behind Drop(%v) = %d, want 5", c.dropped, got)
		}
	}
}
