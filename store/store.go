// Package store keeps nodes and edges, whoever asks for them.
package store

import (
	"cmp"
	"slices"
)

// Node is a node with its properties.
type Node struct {
	Number int
	Label  string
	Props  map[string]int
}

// Edge goes from the node of a number to another. Its own number is told nowhere: its place among the edges stands for it.
type Edge struct {
	Type     string
	From, To int
}

// Graph has nodes and edges, both by their numbers.
type Graph struct {
	Nodes []Node
	Edges []Edge
	last  int // the number that was given last: none is given again
}

// Add adds a node, whose properties it keeps; it answers the node's number.
func (g *Graph) Add(label string, props map[string]int) int {
	g.last++
	g.Nodes = append(g.Nodes, Node{Number: g.last, Label: label, Props: props})
	return g.last
}

// Node finds a node by its number; it answers whether there is one.
func (g *Graph) Node(number int) (Node, bool) {
	i, found := slices.BinarySearchFunc(g.Nodes, number, func(n Node, number int) int {
		return cmp.Compare(n.Number, number)
	})
	if !found {
		return Node{}, false
	}
	return g.Nodes[i], true
}

// Value tells a property of a node.
func (g *Graph) Value(number int, key string) Value {
	node, _ := g.Node(number)
	value, there := node.Props[key]
	return Value{Some: there, Number: value}
}
