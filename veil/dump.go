package veil

import (
	"maps"
	"slices"
	"strconv"
	"strings"

	"veil/store"
)

// nodeText tells a node: its number, its label and its properties by their keys.
func nodeText(node store.Node) string {
	words := []string{strconv.Itoa(node.Number), node.Label}
	for _, key := range slices.Sorted(maps.Keys(node.Props)) {
		words = append(words, key+"="+strconv.Itoa(node.Props[key]))
	}
	return strings.Join(words, " ")
}

// edgeText tells an edge: from where, its type, to where.
func edgeText(edge store.Edge) string {
	return strings.Join([]string{strconv.Itoa(edge.From), edge.Type, strconv.Itoa(edge.To)}, " ")
}
