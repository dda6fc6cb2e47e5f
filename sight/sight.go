// Package sight draws the veil.
package sight

import (
	"veil/rights"
	"veil/store"
)

// Of makes the graph that has nothing but what a role sees (P7), so that no answer to what is asked of it can hang on anything else.
func Of(all *store.Graph, role rights.Role) *store.Graph {
	seen := &store.Graph{}
	for _, node := range all.Nodes {
		if role.May(rights.Right{Verb: rights.See, Of: node.Label}) {
			node.Props = readable(node, role)
			seen.Nodes = append(seen.Nodes, node)
		}
	}
	for _, edge := range all.Edges {
		if HasEdge(seen, role, edge) {
			seen.Edges = append(seen.Edges, edge)
		}
	}
	return seen
}

// readable copies those properties of a node that a role may read.
func readable(node store.Node, role rights.Role) map[string]int {
	props := map[string]int{}
	for key, value := range node.Props {
		if role.May(rights.Right{Verb: rights.Read, Of: node.Label, Key: key}) {
			props[key] = value
		}
	}
	return props
}

// HasEdge: does a role that sees these nodes see this edge?
func HasEdge(seen *store.Graph, role rights.Role, edge store.Edge) bool {
	_, from := seen.Node(edge.From)
	_, to := seen.Node(edge.To)
	return from && to && role.May(rights.Right{Verb: rights.Walk, Of: edge.Type})
}
