package veil_test

import (
	"maps"
	"math"
	"slices"
	"strconv"
	"strings"

	"veil/api"
	"veil/query"
)

// model is a second and slower reading of P8 to P14: it asks the lines of the policy themselves, and finds rows spot by spot, all of them at once.
type model struct {
	may   map[string]map[string]bool // of each role: the lines of its rights
	nodes map[int]modelNode
	edges []modelEdge
	made  int // nodes, by now
	views map[string]modelView
	audit []string
}

type modelNode struct {
	label string
	props map[string]int
}

type modelEdge struct {
	from int
	kind string
	to   int
}

type modelView struct{ role, text string }

func newModel(policy string) *model {
	m := &model{may: map[string]map[string]bool{}, nodes: map[int]modelNode{}, views: map[string]modelView{}}
	role := ""
	for line := range strings.SplitSeq(policy, "\n") {
		if name, begins := strings.CutPrefix(line, "role "); begins {
			role = name
			m.may[role] = map[string]bool{}
		} else {
			m.may[role][line] = true
		}
	}
	return m
}

func (m *model) seesNode(role string, number int) bool {
	return m.may[role]["see "+m.nodes[number].label]
}

func (m *model) seesEdge(role string, e modelEdge) bool {
	return m.may[role]["walk "+e.kind] && m.seesNode(role, e.from) && m.seesNode(role, e.to)
}

// null stands ahead of all numbers.
const null = math.MinInt

// value is a property as a role sees it.
func (m *model) value(role string, number int, key string) int {
	value, there := m.nodes[number].props[key]
	if !there || !m.may[role]["read "+m.nodes[number].label+"."+key] {
		return null
	}
	return value
}

func (m *model) term(role string, term api.Term, row map[string]int) int {
	if term.Name == "" {
		return term.Value
	}
	return m.value(role, row[term.Name], term.Key)
}

func (m *model) holds(role string, c api.Cond, row map[string]int) bool {
	a, b := m.term(role, c.A, row), m.term(role, c.B, row)
	if c.Op == api.IsNull || c.Op == api.IsSome {
		return (a == null) == (c.Op == api.IsNull)
	}
	return a != null && b != null && map[int]bool{api.Equal: a == b, api.Unequal: a != b, api.Less: a < b, api.NoMore: a <= b, api.More: a > b, api.NoLess: a >= b}[c.Op]
}

// ways tells where the ways of a step end that go on from here, and how many of one edge or more there are; it gives up where they are more than any budget.
func (m *model) ways(role string, spot api.Spot, at int, used []int) (ends []int, count int) {
	if len(used) >= spot.Least {
		ends = append(ends, at)
	}
	if len(used) == spot.Most {
		return ends, 0
	}
	for place, e := range m.edges {
		if e.from == at && e.kind == spot.Type && m.seesEdge(role, e) && !slices.Contains(used, place) && count <= api.MaxBudget {
			more, n := m.ways(role, spot, e.to, append(slices.Clone(used), place))
			ends = append(ends, more...)
			count += 1 + n
		}
	}
	return ends, count
}

func (m *model) seenNodes(role string) []int {
	list := slices.Sorted(maps.Keys(m.nodes))
	return slices.DeleteFunc(list, func(number int) bool { return !m.seesNode(role, number) })
}

// rows tells the rows of a match, and whether the budget is enough.
func (m *model) rows(role string, q api.Query, budget int) ([]map[string]int, bool) {
	rows, cost := []map[string]int{{}}, 0
	for i, spot := range q.Spots {
		var next []map[string]int
		for _, row := range rows {
			ends, ways := m.seenNodes(role), 0
			if spot.Type != "" {
				ends, ways = m.ways(role, spot, row[q.Spots[i-1].Name], nil)
			}
			cost += ways
			for _, end := range ends {
				bound, is := row[spot.Name]
				if (!is || bound == end) && (spot.Label == "" || spot.Label == m.nodes[end].label) {
					longer := maps.Clone(row)
					longer[spot.Name] = end
					next = append(next, longer)
				}
			}
			if cost+len(next) > budget {
				return nil, false
			}
		}
		rows, cost = next, cost+len(next)
	}
	return slices.DeleteFunc(rows, func(row map[string]int) bool {
		return slices.ContainsFunc(q.Conds, func(c api.Cond) bool { return !m.holds(role, c, row) })
	}), true
}

// run is Run.
func (m *model) run(role, text string, budget int) ([]string, api.Errno) {
	if m.may[role] == nil {
		return nil, api.ErrRole
	}
	q, fault := query.Parse(text)
	if fault != api.OK {
		return nil, fault
	}
	switch q.Kind {
	case api.Make:
		return m.runMake(role, q, budget)
	case api.Call:
		view, there := m.views[q.Name]
		if !there {
			return nil, api.ErrView
		}
		if !m.may[role]["call "+q.Name] {
			return nil, api.ErrDenied
		}
		m.audit = append(m.audit, role+" "+q.Name)
		return m.run(view.role, view.text, budget)
	}
	rows, enough := m.rows(role, q, max(0, min(budget, api.MaxBudget)))
	if !enough {
		return nil, api.ErrBudget
	}
	switch q.Kind {
	case api.Link:
		return m.runLink(role, q, rows)
	case api.Set:
		return m.runSet(role, q, rows)
	case api.Delete:
		return m.runDelete(role, q, rows)
	}
	return m.runRead(role, q, rows), api.OK
}

func (m *model) runMake(role string, q api.Query, budget int) ([]string, api.Errno) {
	if budget < 1 {
		return nil, api.ErrBudget
	}
	may, props := m.may[role]["make "+q.Label], map[string]int{}
	for _, pair := range q.Pairs {
		may = may && m.may[role]["set "+q.Label+"."+pair.Key]
		props[pair.Key] = pair.Value
	}
	if !may {
		return nil, api.ErrDenied
	}
	if len(m.nodes) == api.MaxNodes {
		return nil, api.ErrFull
	}
	m.made++
	m.nodes[m.made] = modelNode{label: q.Label, props: props}
	return []string{strconv.Itoa(m.made)}, api.OK
}

func (m *model) runLink(role string, q api.Query, rows []map[string]int) ([]string, api.Errno) {
	var more []modelEdge
	for from := range m.made + 1 {
		for to := range m.made + 1 {
			if slices.ContainsFunc(rows, func(row map[string]int) bool { return row[q.Name] == from && row[q.To] == to }) {
				more = append(more, modelEdge{from, q.Type, to})
			}
		}
	}
	if !m.may[role]["link "+q.Type] {
		return nil, api.ErrDenied
	}
	if len(m.edges)+len(more) > api.MaxEdges {
		return nil, api.ErrFull
	}
	m.edges = append(m.edges, more...)
	return []string{strconv.Itoa(len(more))}, api.OK
}

func (m *model) runSet(role string, q api.Query, rows []map[string]int) ([]string, api.Errno) {
	values := map[int]int{}
	for _, row := range rows {
		number := row[q.Name]
		if !m.may[role]["set "+m.nodes[number].label+"."+q.Key] {
			return nil, api.ErrDenied
		}
		values[number] = m.term(role, q.Value, row)
	}
	for number, value := range values {
		m.nodes[number].props[q.Key] = value
		if value == null {
			delete(m.nodes[number].props, q.Key)
		}
	}
	return []string{strconv.Itoa(len(values))}, api.OK
}

func (m *model) runDelete(role string, q api.Query, rows []map[string]int) ([]string, api.Errno) {
	gone := map[int]bool{}
	for _, row := range rows {
		gone[row[q.Name]] = true
		if !m.may[role]["drop "+m.nodes[row[q.Name]].label] {
			return nil, api.ErrDenied
		}
	}
	var rest []modelEdge
	for _, e := range m.edges {
		switch {
		case !gone[e.from] && !gone[e.to]:
			rest = append(rest, e)
		case m.seesEdge(role, e) && !m.may[role]["cut "+e.kind], !m.seesEdge(role, e) && !m.may[role]["detach"]:
			return nil, api.ErrDenied
		}
	}
	m.edges = rest
	for number := range gone {
		delete(m.nodes, number)
	}
	return []string{strconv.Itoa(len(gone))}, api.OK
}

// runRead writes numbers at last, so that lines can be put in order as lists of numbers.
func (m *model) runRead(role string, q api.Query, rows []map[string]int) []string {
	var lines [][]int
	for _, row := range rows {
		var line []int
		for _, item := range q.Items {
			switch {
			case item.Name == "":
				line = append(line, 0)
			case item.Key == "":
				line = append(line, row[item.Name])
			default:
				line = append(line, m.value(role, row[item.Name], item.Key))
			}
		}
		lines = append(lines, line)
	}
	if slices.Contains(q.Items, api.Item{}) {
		lines = modelCounts(q, lines)
	}
	slices.SortFunc(lines, func(a, b []int) int {
		if q.Order > 0 && a[q.Order-1] != b[q.Order-1] {
			if (a[q.Order-1] < b[q.Order-1]) != q.Down {
				return -1
			}
			return 1
		}
		return slices.Compare(a, b)
	})
	var list []string
	for i, line := range lines {
		if i < q.Skip || q.Limit >= 0 && i >= q.Skip+q.Limit {
			continue
		}
		var words []string
		for _, value := range line {
			words = append(words, strings.Replace(strconv.Itoa(value), strconv.Itoa(null), "-", 1))
		}
		list = append(list, strings.Join(words, "|"))
	}
	return list
}

// modelCounts makes one line of those that agree, by holding each against all others.
func modelCounts(q api.Query, lines [][]int) [][]int {
	var list [][]int
	for i, line := range lines {
		count, first := 0, true
		for j, other := range lines {
			if slices.Equal(line, other) {
				count++
				first = first && j >= i
			}
		}
		if first {
			list = append(list, withCounts(q, line, count))
		}
	}
	if len(list) == 0 && !slices.ContainsFunc(q.Items, func(item api.Item) bool { return item.Name != "" }) {
		list = [][]int{make([]int, len(q.Items))}
	}
	return list
}

func withCounts(q api.Query, line []int, count int) []int {
	line = slices.Clone(line)
	for i, item := range q.Items {
		if item.Name == "" {
			line[i] = count
		}
	}
	return line
}

// define is Define, of names that are names.
func (m *model) define(name, role, text string) api.Errno {
	q, fault := query.Parse(text)
	_, twice := m.views[name]
	switch {
	case m.may[role] == nil:
		return api.ErrRole
	case fault != api.OK:
		return fault
	case q.Kind != api.Read:
		return api.ErrSyntax
	case twice || len(m.views) == api.MaxViews:
		return api.ErrView
	}
	m.views[name] = modelView{role, text}
	return api.OK
}

// dump is Dump.
func (m *model) dump() []string {
	var list []string
	for _, number := range slices.Sorted(maps.Keys(m.nodes)) {
		list = append(list, m.nodeText(number, ""))
	}
	for _, e := range m.edges {
		list = append(list, strconv.Itoa(e.from)+" "+e.kind+" "+strconv.Itoa(e.to))
	}
	return list
}

// nodeText tells a node, and its properties to a role (or, without a role, all of them).
func (m *model) nodeText(number int, role string) string {
	text := strconv.Itoa(number) + " " + m.nodes[number].label
	for _, key := range slices.Sorted(maps.Keys(m.nodes[number].props)) {
		if role == "" || m.value(role, number, key) != null {
			text += " " + key + "=" + strconv.Itoa(m.nodes[number].props[key])
		}
	}
	return text
}
