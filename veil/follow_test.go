package veil_test

import (
	"math/rand"
	"slices"
	"strconv"
	"strings"
	"testing"

	"veil/api"
	"veil/query"
	"veil/veil"
)

// allRights has every right at the few words that these tests use.
const allRights = "see A\nsee B\nwalk T\nwalk U\nread A.k\nread A.j\nread B.k\nread B.j\nmake A\nmake B\nset A.k\nset A.j\nset B.k\nset B.j\ndrop A\ndrop B\nlink T\nlink U\ncut T\ncut U\ncall v\ncall w\ndetach"

var someRoles = []string{"root", "a", "b", "c"}

// randomPolicy has one role with all rights, and others that lack some.
func randomPolicy(r *rand.Rand) string {
	lines := []string{"role root", allRights}
	for _, role := range someRoles[1:] {
		lines = append(lines, "role "+role)
		often := 5 + r.Intn(5)
		for right := range strings.SplitSeq(allRights, "\n") {
			if r.Intn(10) < often {
				lines = append(lines, right)
			}
		}
	}
	return strings.Join(lines, "\n")
}

func oneOf(r *rand.Rand, list ...string) string { return list[r.Intn(len(list))] }

// randomMatch makes a match that has the variable a, and often b.
func randomMatch(r *rand.Rand) string {
	spot := func(name string) string { return "(" + name + oneOf(r, "", "", ":A", ":B") + ")" }
	text := "MATCH " + spot("a")
	for range r.Intn(3) {
		text += oneOf(r, ",", ",", "-[T]->", "-[U]->", "-[T*0..2]->", "-[T*1..4]->", "-[U*2..3]->") + spot(oneOf(r, "b", "b", "b", "a"))
	}
	for i := range r.Intn(3) {
		text += []string{" WHERE ", " AND "}[i] + "a." + oneOf(r, "k", "j") + oneOf(r, "=", "<>", "<", "<=", ">", ">=") + oneOf(r, "0", "1", "2", "a.k", "a.j")
		if r.Intn(3) == 0 {
			text += " AND a." + oneOf(r, "k", "j") + oneOf(r, " IS NULL", " IS NOT NULL")
		}
	}
	return text
}

func randomRead(r *rand.Rand) string {
	text := randomMatch(r) + " RETURN " + oneOf(r, "a", "a.k", "a.j", "COUNT", "a,a.k", "COUNT,a.k", "a.j,a.k,COUNT")
	return text + oneOf(r, "", "", " ORDER BY 1", " ORDER BY 1 DESC") + oneOf(r, "", "", " SKIP 1") + oneOf(r, "", "", " LIMIT 2")
}

// randomChange makes a query that changes something. Where it needs b, there may be none.
func randomChange(r *rand.Rand) string {
	label, value := oneOf(r, "A", "B"), strconv.Itoa(r.Intn(3))
	switch r.Intn(10) {
	case 0, 1, 2:
		return "CREATE (" + label + oneOf(r, "", "{k:"+value+"}", "{k:"+value+",j:1}", "{j:"+value+"}") + ")"
	case 3, 4, 5:
		return randomMatch(r) + " CREATE (" + oneOf(r, "a", "b") + ")-[" + oneOf(r, "T", "U") + "]->(" + oneOf(r, "a", "b") + ")"
	case 6, 7:
		return randomMatch(r) + " SET a." + oneOf(r, "k", "j") + "=" + oneOf(r, value, "a.k", "a.j", "a.x")
	}
	return randomMatch(r) + " DELETE " + oneOf(r, "a", "b")
}

func randomQuery(r *rand.Rand) string {
	switch r.Intn(6) {
	case 0:
		return randomRead(r)
	case 1:
		return "CALL " + oneOf(r, "v", "v", "w", "x")
	}
	return randomChange(r)
}

func randomBudget(r *rand.Rand) int {
	return []int{api.MaxBudget, api.MaxBudget, api.MaxBudget + 1, r.Intn(30), r.Intn(300)}[r.Intn(5)]
}

// outcome tells the kind of a query and how it went.
func outcome(text string, fault api.Errno) string {
	q, _ := query.Parse(text)
	return strconv.Itoa(q.Kind) + ":" + strconv.Itoa(int(fault))
}

// both does the same in a graph and in its model, and holds what comes of it against each other.
type both struct {
	t      *testing.T
	policy string
	g      *veil.Graph
	m      *model
	done   []string
	went   map[string]int // how often each kind of query went how
}

func (b *both) define(name, role, text string) {
	b.t.Helper()
	b.done = append(b.done, "Define "+name+" "+role+" "+text)
	if got, want := b.g.Define(name, role, text), b.m.define(name, role, text); got != want {
		b.t.Fatalf("%s\n%s\nDefine = %d, want %d", b.policy, strings.Join(b.done, "\n"), got, want)
	}
}

func (b *both) run(role, text string, budget int) {
	b.t.Helper()
	b.done = append(b.done, role+" "+text+" with "+strconv.Itoa(budget))
	got, fault := b.g.Run(role, text, budget)
	want, wantFault := b.m.run(role, text, budget)
	b.went[outcome(text, fault)]++
	if fault != wantFault || !slices.Equal(got, want) || !slices.Equal(b.g.Dump(), b.m.dump()) || !slices.Equal(b.g.Audit(), b.m.audit) {
		b.t.Fatalf("%s\n%s\n%q, %d, want %q, %d\n%q, want\n%q", b.policy, strings.Join(b.done, "\n"), got, fault, want, wantFault, b.g.Dump(), b.m.dump())
	}
}

// P8 to P14: whatever is done one behind the other, by whatever roles, answers, errors, graph and audit are those of a second reading of the document.
func TestModel(t *testing.T) {
	r := rand.New(rand.NewSource(3))
	went := map[string]int{}
	for i := range 400 {
		policy := randomPolicy(r)
		b := &both{t: t, policy: policy, g: made(t, policy), m: newModel(policy), went: went}
		for n := range 8 * (1 - min(i%4, 1)) { // every fourth time there are many edges at first
			b.run("root", []string{"CREATE (A {k:1})", "CREATE (B)", "MATCH (a),(b) CREATE (a)-[T]->(b)"}[n/3], api.MaxBudget)
		}
		for range 60 {
			role := oneOf(r, append(someRoles, "root", "root")...)
			if r.Intn(10) == 0 {
				b.define(oneOf(r, "v", "w", "x"), role, oneOf(r, randomRead(r), randomQuery(r)))
			}
			b.run(role, randomQuery(r), randomBudget(r))
		}
	}
	for _, kind := range []string{"1:0", "1:6", "2:0", "2:6", "2:7", "3:0", "3:6", "3:7", "4:0", "4:6", "4:7", "4:8", "5:0", "5:6", "5:7", "6:0", "6:5", "6:6", "6:7"} {
		if went[kind] < 20 {
			t.Errorf("kind and error %s only %d times: too few to tell", kind, went[kind])
		}
	}
}

// mayHaveDone tells what of the changes between two states a role may not have done, by the lines of its rights alone.
func mayHaveDone(before, after *model, role string) string {
	may := before.may[role]
	for number, node := range before.nodes {
		now, there := after.nodes[number]
		if !there && !may["drop "+node.label] || there && now.label != node.label {
			return "node " + strconv.Itoa(number)
		}
		for _, key := range []string{"k", "j", "x"} {
			if there && after.propText(number, key) != before.propText(number, key) && !may["set "+node.label+"."+key] {
				return "property " + key + " of node " + strconv.Itoa(number)
			}
		}
	}
	for number, node := range after.nodes {
		if _, there := before.nodes[number]; !there && !may["make "+node.label] {
			return "new node " + strconv.Itoa(number)
		}
		for key := range node.props {
			if before.propText(number, key) != after.propText(number, key) && !may["set "+node.label+"."+key] {
				return "property " + key + " of node " + strconv.Itoa(number)
			}
		}
	}
	return mayHaveDoneEdges(before, after, role)
}

func (m *model) propText(number int, key string) string {
	if value, there := m.nodes[number].props[key]; there {
		return strconv.Itoa(value)
	}
	return ""
}

func mayHaveDoneEdges(before, after *model, role string) string {
	may, rest := before.may[role], slices.Clone(after.edges)
	for _, e := range before.edges {
		if i := slices.Index(rest, e); i >= 0 {
			rest = slices.Delete(rest, i, i+1)
		} else if before.seesEdge(role, e) && !may["cut "+e.kind] || !before.seesEdge(role, e) && !may["detach"] {
			return "edge of " + e.kind
		}
	}
	for _, e := range rest {
		if !may["link "+e.kind] || !before.seesNode(role, e.from) || !before.seesNode(role, e.to) {
			return "new edge of " + e.kind
		}
	}
	return ""
}

// dumped reads what Dump tells.
func dumped(policy string, g *veil.Graph) *model {
	m := newModel(policy)
	for _, text := range g.Dump() {
		words := strings.Split(text, " ")
		number, _ := strconv.Atoi(words[0])
		if len(words) == 3 && !strings.Contains(words[2], "=") {
			to, _ := strconv.Atoi(words[2])
			m.edges = append(m.edges, modelEdge{number, words[1], to})
			continue
		}
		props := map[string]int{}
		for _, word := range words[2:] {
			key, value, _ := strings.Cut(word, "=")
			props[key], _ = strconv.Atoi(value)
		}
		m.nodes[number] = modelNode{label: words[1], props: props}
	}
	return m
}

// P15: what a role may not change stays as it is, whatever it runs.
func TestWhatMayNotBeChangedStays(t *testing.T) {
	r := rand.New(rand.NewSource(4))
	changed := 0
	for range 200 {
		policy := randomPolicy(r)
		g := made(t, policy)
		for range 60 {
			role, text := oneOf(r, append(someRoles, "root")...), randomQuery(r)
			before := dumped(policy, g)
			_, fault := g.Run(role, text, randomBudget(r))
			after := dumped(policy, g)
			if wrong := mayHaveDone(before, after, role); wrong != "" {
				t.Fatalf("%s\n%s runs %q: %s\n%q, ahead\n%q", policy, role, text, wrong, after.dump(), before.dump())
			}
			q, _ := query.Parse(text)
			same := slices.Equal(before.dump(), after.dump())
			if (fault != api.OK || q.Kind == api.Read || q.Kind == api.Call) && !same {
				t.Fatalf("%s\n%s runs %q: %d, and now there is %q, ahead\n%q", policy, role, text, fault, after.dump(), before.dump())
			}
			if !same {
				changed++
			}
		}
	}
	if changed < 2000 {
		t.Errorf("%d changes: too few to tell", changed)
	}
}

// seenBy tells all that a role sees in one text, edges not in the order of their numbers.
func (m *model) seenBy(role string) string {
	var list, edges []string
	for _, number := range m.seenNodes(role) {
		list = append(list, m.nodeText(number, role))
	}
	for _, e := range m.edges {
		if m.seesEdge(role, e) {
			edges = append(edges, strconv.Itoa(e.from)+" "+e.kind+" "+strconv.Itoa(e.to))
		}
	}
	slices.Sort(edges)
	return strings.Join(append(list, edges...), "\n")
}

// answersOf tells what a role is answered to some reads, with budgets that are enough and such that are not.
func answersOf(g *veil.Graph, role string, reads []string) string {
	text := ""
	for _, read := range reads {
		for _, budget := range []int{0, 1, 2, 4, 9, 20, 60, api.MaxBudget} {
			list, fault := g.Run(role, read, budget)
			text += strings.Join(list, " ") + ":" + strconv.Itoa(int(fault)) + "\n"
		}
	}
	return text
}

// P15: whatever others do to what a role does not see, its answers stay the same: they hang on nothing but what it sees.
func TestUnseenChangesHaveNoPart(t *testing.T) {
	r := rand.New(rand.NewSource(5))
	unseen := 0
	for range 30 {
		policy := randomPolicy(r)
		g := made(t, policy)
		reads := []string{"MATCH (a)-[T*0..3]->(b) RETURN a,b", "MATCH (a),(b) RETURN a,a.k,b.j"}
		for range 3 {
			reads = append(reads, randomRead(r))
		}
		type sight struct{ role, seen string }
		told := map[sight]string{}
		last := ""
		for range 40 {
			g.Run("root", randomChange(r), api.MaxBudget)
			now := strings.Join(g.Dump(), "\n")
			for _, role := range someRoles {
				key := sight{role, dumped(policy, g).seenBy(role)}
				answer := answersOf(g, role, reads)
				was, known := told[key]
				if known && was != answer {
					t.Fatalf("%s\n%s sees\n%s\nand is answered\n%s\nahead\n%s", policy, role, key.seen, answer, was)
				}
				if known && now != last && role != "root" {
					unseen++
				}
				told[key] = answer
			}
			last = now
		}
	}
	if unseen < 500 {
		t.Errorf("%d changes that were not seen: too few to tell", unseen)
	}
}

// P15: a view's answer is what its role would be answered, and with a greater budget it is the same.
func TestViewsAnswerForTheirRole(t *testing.T) {
	r := rand.New(rand.NewSource(6))
	told := 0
	for range 150 {
		g := made(t, randomPolicy(r))
		role, read := oneOf(r, someRoles...), randomRead(r)
		defines(t, g, "v", role, read, api.OK)
		for range 20 {
			g.Run("root", randomChange(r), api.MaxBudget)
			var first []string
			for budget := range 60 {
				want, wantFault := g.Run(role, read, budget)
				got, fault := g.Run("root", "CALL v", budget)
				if fault != wantFault || !slices.Equal(got, want) {
					t.Fatalf("CALL v with %d: %q, %d, want %q, %d", budget, got, fault, want, wantFault)
				}
				if first != nil && (fault != api.OK || !slices.Equal(first, got)) {
					t.Fatalf("CALL v with %d: %q, %d, with less %q", budget, got, fault, first)
				}
				if len(got) > 0 {
					first = got
					told++
				}
			}
		}
	}
	if told < 1000 {
		t.Errorf("%d answers: too few to tell", told)
	}
}
