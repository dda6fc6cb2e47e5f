// Package store keeps nodes and edges, whoever asks for them.
package store

import (
	"cmp"
	"slices"
)

// Node is a node with its properties.
type Node struct {
	Number int
	Label  string
	Props  map[string]int
}

// Edge goes from the node of a number to another. Its own number is told nowhere: its place among the edges stands for it.
type Edge struct {
	Type     string
	From, To int
}

// Graph has nodes and edges, both by their numbers.
type Graph struct {
	Nodes []Node
	Edges []Edge
	last  int // the number that was given last: none is given again
}

// Add adds a node; it keeps the map of its properties and writes into it later on. It answers the node's number.
func (g *Graph) Add(label string, props map[string]int) int {
	g.last++
	g.Nodes = append(g.Nodes, Node{Number: g.last, Label: label, Props: props})
	return g.last
}

// Link adds an edge from a node to a node.
func (g *Graph) Link(kind string, from, to int) {
	g.Edges = append(g.Edges, Edge{Type: kind, From: from, To: to})
}

// Set gives a node a property, or takes it away, if the value is NULL.
func (g *Graph) Set(number int, key string, value Value) {
	node, there := g.Node(number)
	switch {
	case !there:
	case value.Some:
		node.Props[key] = value.Number
	default:
		delete(node.Props, key)
	}
}

// Drop takes away nodes, and all edges that have one of them for an end.
func (g *Graph) Drop(numbers []int) {
	g.Nodes = slices.DeleteFunc(g.Nodes, func(n Node) bool { return slices.Contains(numbers, n.Number) })
	g.Edges = slices.DeleteFunc(g.Edges, func(e Edge) bool { return e.EndsAt(numbers) })
}

// EndsAt: does the edge have one of these nodes for an end?
func (e Edge) EndsAt(numbers []int) bool {
	return slices.Contains(numbers, e.From) || slices.Contains(numbers, e.To)
}

// Node finds a node by its number; it answers whether there is one.
func (g *Graph) Node(number int) (Node, bool) {
	i, found := slices.BinarySearchFunc(g.Nodes, number, func(n Node, number int) int {
		return cmp.Compare(n.Number, number)
	})
	if !found {
		return Node{}, false
	}
	return g.Nodes[i], true
}

// Value tells a property of a node.
func (g *Graph) Value(number int, key string) Value {
	node, _ := g.Node(number)
	value, there := node.Props[key]
	return Value{Some: there, Number: value}
}
