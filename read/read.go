// Package read answers reads.
package read

import (
	"slices"
	"strings"

	"veil/api"
	"veil/match"
	"veil/store"
)

// Answer answers a read of a graph (P10).
func Answer(g *store.Graph, q api.Query, budget int) ([]string, api.Errno) {
	var lines []line
	enough := match.Each(g, q, budget, func(bound map[string]int) {
		lines = append(lines, lineOf(g, q.Items, bound))
	})
	if !enough {
		return nil, api.ErrBudget
	}
	if slices.ContainsFunc(q.Items, isCount) {
		lines = merged(lines, q.Items)
	}
	slices.SortFunc(lines, func(a, b line) int { return compare(a, b, q) })
	return texts(piece(lines, q), len(q.Items)), api.OK
}

// line has the items' values, NULL where there is no item.
type line [api.MaxItems]store.Value

func isCount(item api.Item) bool { return item.Name == "" }

// lineOf tells the items of a row. COUNT is NULL here, which no row knows by itself, so that rows which agree in all else have the same line.
func lineOf(g *store.Graph, items []api.Item, bound map[string]int) line {
	var l line
	for i, item := range items {
		switch {
		case isCount(item):
		case item.Key == "":
			l[i] = store.Number(bound[item.Name])
		default:
			l[i] = g.Value(bound[item.Name], item.Key)
		}
	}
	return l
}

// merged makes one line of all that are the same, and tells in it how many they were.
func merged(lines []line, items []api.Item) []line {
	counts := map[line]int{}
	if !slices.ContainsFunc(items, func(item api.Item) bool { return !isCount(item) }) {
		counts[line{}] = 0 // there is this line even if there is no row
	}
	for _, l := range lines {
		counts[l]++
	}
	lines = lines[:0]
	for l, n := range counts {
		for i, item := range items {
			if isCount(item) {
				l[i] = store.Number(n)
			}
		}
		lines = append(lines, l)
	}
	return lines
}

// compare tells which line comes first. Lines that it holds for equal have the same text.
func compare(a, b line, q api.Query) int {
	if q.Order > 0 {
		order := store.Compare(a[q.Order-1], b[q.Order-1])
		if q.Down {
			order = -order
		}
		if order != 0 {
			return order
		}
	}
	return slices.CompareFunc(a[:], b[:], store.Compare)
}

// piece leaves out what SKIP and LIMIT leave out.
func piece(lines []line, q api.Query) []line {
	lines = lines[min(q.Skip, len(lines)):]
	if q.Limit < 0 {
		return lines
	}
	return lines[:min(q.Limit, len(lines))]
}

// texts writes the first values of each line, as many as there are items.
func texts(lines []line, items int) []string {
	list := make([]string, 0, len(lines))
	for _, l := range lines {
		var values []string
		for _, value := range l[:items] {
			values = append(values, value.Text())
		}
		list = append(list, strings.Join(values, "|"))
	}
	return list
}
