package store_test

import (
	"testing"

	"veil/store"
)

func TestAddCountsOn(t *testing.T) {
	var g store.Graph
	for want := 1; want <= 3; want++ {
		if got := g.Add("A", nil); got != want {
			t.Errorf("Add = %d, want %d", got, want)
		}
	}
	g.Nodes = g.Nodes[:1]
	if got := g.Add("B", map[string]int{"k": 5}); got != 4 {
		t.Errorf("Add behind a node that is gone = %d, want 4", got)
	}
	for number, label := range map[int]string{1: "A", 4: "B"} {
		if node, there := g.Node(number); !there || node.Number != number || node.Label != label {
			t.Errorf("Node(%d) = %v, %v", number, node, there)
		}
	}
	for _, number := range []int{-1, 0, 2, 3, 5} {
		if node, there := g.Node(number); there || node.Number != 0 {
			t.Errorf("Node(%d) = %v, %v", number, node, there)
		}
	}
}

func TestValue(t *testing.T) {
	var g store.Graph
	g.Add("A", map[string]int{"k": 5, "z": 0})
	g.Add("A", nil)
	for _, c := range []struct {
		number int
		key    string
		want   store.Value
	}{{1, "k", store.Number(5)}, {1, "z", store.Number(0)}, {1, "j", store.Value{}}, {2, "k", store.Value{}}, {3, "k", store.Value{}}} {
		if got := g.Value(c.number, c.key); got != c.want {
			t.Errorf("Value(%d, %q) = %v, want %v", c.number, c.key, got, c.want)
		}
	}
}

func TestValuesInOrder(t *testing.T) {
	values := []store.Value{{}, store.Number(-1000000000), store.Number(-1), store.Number(0), store.Number(9), store.Number(10)}
	texts := []string{"-", "-1000000000", "-1", "0", "9", "10"}
	for i, a := range values {
		if a.Text() != texts[i] {
			t.Errorf("Text of %v = %q, want %q", a, a.Text(), texts[i])
		}
		for j, b := range values {
			if got := store.Compare(a, b); got < 0 != (i < j) || got > 0 != (i > j) {
				t.Errorf("Compare(%v, %v) = %d", a, b, got)
			}
		}
	}
}
