package query_test

import (
	"reflect"
	"strings"
	"testing"

	"veil/api"
	"veil/query"
)

// plain gives a query whose lists without elements are nil, for comparing.
func plain(q api.Query) api.Query {
	if len(q.Spots) == 0 {
		q.Spots = nil
	}
	if len(q.Conds) == 0 {
		q.Conds = nil
	}
	if len(q.Items) == 0 {
		q.Items = nil
	}
	if len(q.Pairs) == 0 {
		q.Pairs = nil
	}
	return q
}

func sameQuery(a, b api.Query) bool { return reflect.DeepEqual(plain(a), plain(b)) }

func prop(name, key string) api.Term { return api.Term{Name: name, Key: key} }

func num(v int) api.Term { return api.Term{Value: v} }

// readOf is a read of one spot and one item, changed.
func readOf(change func(q *api.Query)) api.Query {
	q := api.Query{Kind: api.Read, Spots: []api.Spot{{Name: "a"}}, Items: []api.Item{{Name: "a"}}, Limit: -1}
	change(&q)
	return q
}

// whereOf is a read with these conditions.
func whereOf(conds ...api.Cond) api.Query {
	return readOf(func(q *api.Query) { q.Conds = conds })
}

func checkParsed(t *testing.T, text string, want api.Query) {
	t.Helper()
	if q, e := query.Parse(text); e != api.OK || !sameQuery(q, want) {
		t.Errorf("P4, P5: Parse(%q) = %+v, %d, want %+v", text, q, e, want)
	}
}

func checkRefused(t *testing.T, text string, want api.Errno) {
	t.Helper()
	if q, e := query.Parse(text); e != want || !reflect.DeepEqual(q, api.Query{}) {
		t.Errorf("P4, P5: Parse(%.200q) = %+v, %d, want %d", text, q, e, want)
	}
}

func TestParseSpots(t *testing.T) {
	for text, want := range map[string][]api.Spot{
		"(a)":                     {{Name: "a"}},
		" ( a ) ":                 {{Name: "a"}},
		"(a:Ab)":                  {{Name: "a", Label: "Ab"}},
		"(a),(a:A),(b)":           {{Name: "a"}, {Name: "a", Label: "A"}, {Name: "b"}},
		"(a)-[T]->(b:B)":          {{Name: "a"}, {Name: "b", Label: "B", Type: "T", Least: 1, Most: 1}},
		"(a)-[T*1..1]->(a)":       {{Name: "a"}, {Name: "a", Type: "T", Least: 1, Most: 1}},
		"(a)-[T*0..0]->(b)":       {{Name: "a"}, {Name: "b", Type: "T"}},
		"(a)-[T*0..4]->(b)":       {{Name: "a"}, {Name: "b", Type: "T", Most: 4}},
		"(a)-[T*4..4]->(b)":       {{Name: "a"}, {Name: "b", Type: "T", Least: 4, Most: 4}},
		"(a)-[ T * 2 .. 3 ]->(b)": {{Name: "a"}, {Name: "b", Type: "T", Least: 2, Most: 3}},
		"(a)-[T]->(b)-[U]->(c),(d)-[V]->(a),(e)": {
			{Name: "a"}, {Name: "b", Type: "T", Least: 1, Most: 1}, {Name: "c", Type: "U", Least: 1, Most: 1},
			{Name: "d"}, {Name: "a", Type: "V", Least: 1, Most: 1}, {Name: "e"},
		},
		"(abcdefgh:Abcdefgh),(a)":   {{Name: "abcdefgh", Label: "Abcdefgh"}, {Name: "a"}},
		"(match:Match),(a:MATCHES)": {{Name: "match", Label: "Match"}, {Name: "a", Label: "MATCHES"}},
		"(count:A9),(a:Z)":          {{Name: "count", Label: "A9"}, {Name: "a", Label: "Z"}},
		"(z:Z),(a:ZZ),(zz:Az)":      {{Name: "z", Label: "Z"}, {Name: "a", Label: "ZZ"}, {Name: "zz", Label: "Az"}},
	} {
		checkParsed(t, "MATCH"+text+"RETURN a", readOf(func(q *api.Query) { q.Spots = want }))
	}
}

func TestParseConds(t *testing.T) {
	ak := prop("a", "k")
	for text, want := range map[string][]api.Cond{
		"a.k=1":                     {{Op: api.Equal, A: ak, B: num(1)}},
		"1<>a.k":                    {{Op: api.Unequal, A: num(1), B: ak}},
		"a.k<-1":                    {{Op: api.Less, A: ak, B: num(-1)}},
		"0<=0":                      {{Op: api.NoMore, A: num(0), B: num(0)}},
		"a.a>a.b":                   {{Op: api.More, A: prop("a", "a"), B: prop("a", "b")}},
		"1000000000>=-1000000000":   {{Op: api.NoLess, A: num(1000000000), B: num(-1000000000)}},
		"a.k IS NULL":               {{Op: api.IsNull, A: ak}},
		"a.k IS NOT NULL":           {{Op: api.IsSome, A: ak}},
		"7 IS NULL":                 {{Op: api.IsNull, A: num(7)}},
		"-7 IS NOT NULL":            {{Op: api.IsSome, A: num(-7)}},
		"0 IS NULL AND a.k=a.k":     {{Op: api.IsNull}, {Op: api.Equal, A: ak, B: ak}},
		"a.is=1 AND a.null IS NULL": {{Op: api.Equal, A: prop("a", "is"), B: num(1)}, {Op: api.IsNull, A: prop("a", "null")}},
	} {
		checkParsed(t, "MATCH (a) WHERE "+text+" RETURN a", whereOf(want...))
	}
}

func TestParseReads(t *testing.T) {
	for text, want := range map[string]api.Query{
		"a":                               readOf(func(q *api.Query) {}),
		"a.k":                             readOf(func(q *api.Query) { q.Items = []api.Item{{Name: "a", Key: "k"}} }),
		"COUNT":                           readOf(func(q *api.Query) { q.Items = []api.Item{{}} }),
		"COUNT,a . k,a,COUNT":             readOf(func(q *api.Query) { q.Items = []api.Item{{}, {Name: "a", Key: "k"}, {Name: "a"}, {}} }),
		"a ORDER BY 1":                    readOf(func(q *api.Query) { q.Order = 1 }),
		"a ORDER BY 1 DESC":               readOf(func(q *api.Query) { q.Order, q.Down = 1, true }),
		"a SKIP 0":                        readOf(func(q *api.Query) {}),
		"a SKIP 1":                        readOf(func(q *api.Query) { q.Skip = 1 }),
		"a SKIP 1000000000":               readOf(func(q *api.Query) { q.Skip = 1000000000 }),
		"a LIMIT 0":                       readOf(func(q *api.Query) { q.Limit = 0 }),
		"a LIMIT 1000000000":              readOf(func(q *api.Query) { q.Limit = 1000000000 }),
		"a ORDER BY 1 LIMIT 3":            readOf(func(q *api.Query) { q.Order, q.Limit = 1, 3 }),
		"a ORDER BY 1 DESC SKIP 2":        readOf(func(q *api.Query) { q.Order, q.Down, q.Skip = 1, true, 2 }),
		"a SKIP 2 LIMIT 3":                readOf(func(q *api.Query) { q.Skip, q.Limit = 2, 3 }),
		"a ORDER BY 1 SKIP 2 LIMIT 3":     readOf(func(q *api.Query) { q.Order, q.Skip, q.Limit = 1, 2, 3 }),
		"a,COUNT ORDER BY 2 DESC LIMIT 0": readOf(func(q *api.Query) { q.Items = []api.Item{{Name: "a"}, {}}; q.Order, q.Down, q.Limit = 2, true, 0 }),
	} {
		checkParsed(t, "MATCH (a) RETURN "+text, want)
	}
}

func TestParseChanges(t *testing.T) {
	two := []api.Spot{{Name: "a"}, {Name: "b"}}
	set := func(value api.Term) api.Query {
		return api.Query{Kind: api.Set, Spots: two, Name: "b", Key: "k", Value: value}
	}
	link := func(from, to string) api.Query {
		return api.Query{Kind: api.Link, Spots: two, Name: from, Type: "T", To: to}
	}
	made := func(pairs ...api.Pair) api.Query { return api.Query{Kind: api.Make, Label: "A", Pairs: pairs} }
	for text, want := range map[string]api.Query{
		"MATCH (a),(b) SET b.k=0":                set(num(0)),
		"MATCH (a),(b) SET b.k=-1000000000":      set(num(-1000000000)),
		"MATCH (a),(b) SET b.k=b.k":              set(prop("b", "k")),
		"MATCH (a),(b) SET b.k=b.j":              set(prop("b", "j")),
		"MATCH (a) DELETE a":                     {Kind: api.Delete, Spots: two[:1], Name: "a"},
		"MATCH (a) WHERE 1=2 DELETE a":           {Kind: api.Delete, Spots: two[:1], Conds: []api.Cond{{Op: api.Equal, A: num(1), B: num(2)}}, Name: "a"},
		"MATCH (a),(b) CREATE (b)-[T]->(a)":      link("b", "a"),
		"MATCH (a),(b) CREATE(a)-[T]->(a)":       link("a", "a"),
		"CREATE (A)":                             made(),
		"CREATE(A{k:0})":                         made(api.Pair{Key: "k"}),
		"CREATE (A{k:-1000000000,j:1000000000})": made(api.Pair{Key: "k", Value: -1000000000}, api.Pair{Key: "j", Value: 1000000000}),
		"CALL v":                                 {Kind: api.Call, Name: "v"},
		" CALL  v ":                              {Kind: api.Call, Name: "v"},
		"CALL call":                              {Kind: api.Call, Name: "call"},
		"CALL abcdefgh":                          {Kind: api.Call, Name: "abcdefgh"},
	} {
		checkParsed(t, text, want)
	}
}

// TestParseMost has of everything as many as may be, and one more.
func TestParseMost(t *testing.T) {
	list := func(n int, one, between string) string {
		return strings.Repeat(one+between, n-1) + one
	}
	keys := func(n int) string { return strings.Join(strings.Split("a:1 b:1 c:1 d:1 e:1 f:1 g:1", " ")[:n], ",") }
	for name, of := range map[string]func(n int) string{
		"paths":      func(n int) string { return "MATCH " + list(n, "(a)", ",") + " RETURN a" },
		"steps":      func(n int) string { return "MATCH " + list(n, "(a)", "-[T]->") + " RETURN a" },
		"steps, set": func(n int) string { return "MATCH " + list(n, "(a)", "-[T*0..4]->") + " SET a.k=1" },
		"both":       func(n int) string { return "MATCH (a)-[T]->(b)," + list(n-2, "(a)", ",") + " DELETE a" },
		"conditions": func(n int) string { return "MATCH (a) WHERE " + list(n, "a.k=1", " AND ") + " RETURN a" },
		"nulls":      func(n int) string { return "MATCH (a) WHERE " + list(n, "1 IS NULL", " AND ") + " DELETE a" },
		"items":      func(n int) string { return "MATCH (a) RETURN " + list(n, "a", ",") },
		"properties": func(n int) string { return "MATCH (a) RETURN " + list(n, "a.k", ",") },
		"counts":     func(n int) string { return "MATCH (a) RETURN " + list(n, "COUNT", ",") },
		"pairs":      func(n int) string { return "CREATE (A {" + keys(n) + "})" },
		"order":      func(n int) string { return "MATCH (a) RETURN a,a,a,a,a,a ORDER BY " + list(1, string(rune('0'+n)), "") },
		"all at once": func(n int) string {
			return "MATCH " + list(n, "(a)", ",") + " WHERE " + list(n, "a.k=a.k", " AND ") + " RETURN " + list(n, "a.k", ",") + " ORDER BY 6"
		},
	} {
		if q, e := query.Parse(of(6)); e != api.OK {
			t.Errorf("P4: six %s: %+v, %d", name, q, e)
		}
		checkRefused(t, of(7), api.ErrSyntax)
	}
	checkRefused(t, "MATCH "+list(200, "(a)", ",")+" RETURN a", api.ErrSyntax)
	checkRefused(t, "MATCH (a) RETURN "+list(900, "a", ","), api.ErrSyntax)
}

func TestParseLongestText(t *testing.T) {
	text := "MATCH (a) RETURN a"
	whole := text + strings.Repeat(" ", api.MaxText-len(text))
	checkParsed(t, whole, readOf(func(q *api.Query) {}))
	checkRefused(t, whole+" ", api.ErrSyntax)
}

func TestParseBounds(t *testing.T) {
	for _, s := range []string{
		"MATCH (a)-[T*0..5]->(b) RETURN a", "MATCH (a)-[T*5..5]->(b) RETURN a", "MATCH (a)-[T*-1..4]->(b) RETURN a",
		"MATCH (a)-[T*1..0]->(b) RETURN a", "MATCH (a)-[T*4..3]->(b) RETURN a", "MATCH (a)-[T*0..-1]->(b) RETURN a",
		"MATCH (a)-[T*1..1000000000]->(b) RETURN a",
		"MATCH (a) RETURN a ORDER BY 0", "MATCH (a) RETURN a ORDER BY -1", "MATCH (a) RETURN a ORDER BY 2", "MATCH (a) RETURN a,a ORDER BY 3",
		"MATCH (a) RETURN a SKIP -1", "MATCH (a) RETURN a LIMIT -1", "MATCH (a) RETURN a SKIP 1 LIMIT -1000000000",
		"MATCH (a) RETURN a SKIP 1000000001", "MATCH (a) RETURN a LIMIT 1000000001",
		"CREATE (A {k:1,k:1})", "CREATE (A {k:1,j:1,k:2})", "CREATE (A {a:1,b:1,c:1,d:1,e:1,a:1})",
		"CREATE (A {k:1000000001})", "MATCH (a) SET a.k=-1000000001", "MATCH (a) WHERE a.k=01 RETURN a",
	} {
		checkRefused(t, s, api.ErrSyntax)
	}
}

func TestParseNone(t *testing.T) {
	for _, s := range []string{
		"", " ", "a", "A", "1", "(", "MATCH", "CREATE", "CALL", "RETURN", "WHERE", "a.k",
		"match (a) return a", "Match (a) RETURN a", "MATCHES (a) RETURN a",
		"MATCH RETURN a", "MATCH () RETURN a", "MATCH (a RETURN a", "MATCH a) RETURN a", "MATCH (a:) RETURN a", "MATCH (:A) RETURN a", "MATCH (a:A:B) RETURN a", "MATCH (a A) RETURN a", "MATCH (a,b) RETURN a", "MATCH (1) RETURN a", "MATCH (a.k) RETURN a",
		"MATCH (A) RETURN a", "MATCH (COUNT) RETURN a", "MATCH (a:a) RETURN a", "MATCH (a:NULL) RETURN a", "MATCH (a {k:1}) RETURN a",
		"MATCH (a),RETURN a", "MATCH ,(a) RETURN a", "MATCH (a),,(b) RETURN a", "MATCH (a) (b) RETURN a", "MATCH (a) MATCH (b) RETURN a",
		"MATCH (a)-[T]-> RETURN a", "MATCH -[T]->(a) RETURN a", "MATCH (a)-[]->(b) RETURN a", "MATCH (a)-[T](b) RETURN a", "MATCH (a)-[T]->,(b) RETURN a", "MATCH (a),-[T]->(b) RETURN a", "MATCH (a)-[T]->-[T]->(b) RETURN a",
		"MATCH (a)-[t]->(b) RETURN a", "MATCH (a)-[BY]->(b) RETURN a", "MATCH (a)-[:T]->(b) RETURN a", "MATCH (a)-[1]->(b) RETURN a",
		"MATCH (a)-[T*]->(b) RETURN a", "MATCH (a)-[T*1]->(b) RETURN a", "MATCH (a)-[T*1..]->(b) RETURN a", "MATCH (a)-[T*..1]->(b) RETURN a", "MATCH (a)-[T*1.2]->(b) RETURN a", "MATCH (a)-[T 1..2]->(b) RETURN a", "MATCH (a)-[T*1..a]->(b) RETURN a", "MATCH (a)-[T*a..1]->(b) RETURN a", "MATCH (a)-[*1..2]->(b) RETURN a",
		"MATCH (a) WHERE", "MATCH (a) WHERE a.k=1", "MATCH (a) WHERE AND a.k=1 RETURN a", "MATCH (a) WHERE a.k=1 AND RETURN a", "MATCH (a) WHERE a.k=1,a.k=2 RETURN a", "MATCH (a) WHERE a.k=1 WHERE a.k=2 RETURN a", "MATCH (a) AND a.k=1 RETURN a",
		"MATCH (a) WHERE a.k RETURN a", "MATCH (a) WHERE 1 RETURN a", "MATCH (a) WHERE a=1 RETURN a", "MATCH (a) WHERE a.=1 RETURN a", "MATCH (a) WHERE .k=1 RETURN a", "MATCH (a) WHERE a..k=1 RETURN a", "MATCH (a) WHERE a.k.j=1 RETURN a", "MATCH (a) WHERE A.k=1 RETURN a", "MATCH (a) WHERE a.K=1 RETURN a", "MATCH (a) WHERE a.1=1 RETURN a", "MATCH (a) WHERE COUNT=1 RETURN a",
		"MATCH (a) WHERE a.k==1 RETURN a", "MATCH (a) WHERE a.k=<1 RETURN a", "MATCH (a) WHERE a.k< >1 RETURN a", "MATCH (a) WHERE a.k:1 RETURN a", "MATCH (a) WHERE a.k=1=1 RETURN a", "MATCH (a) WHERE a.k*1 RETURN a",
		"MATCH (a) WHERE a.k IS RETURN a", "MATCH (a) WHERE a.k IS NOT RETURN a", "MATCH (a) WHERE a.k NULL RETURN a", "MATCH (a) WHERE a.k NOT NULL RETURN a", "MATCH (a) WHERE a.k IS NULL NULL RETURN a", "MATCH (a) WHERE a.k IS NOT NOT NULL RETURN a", "MATCH (a) WHERE IS NULL RETURN a", "MATCH (a) WHERE a IS NULL RETURN a", "MATCH (a) WHERE a.k IS null RETURN a", "MATCH (a) WHERE NULL IS NULL RETURN a", "MATCH (a) WHERE a.k=NULL RETURN a", "MATCH (a) WHERE a.k IS 1 RETURN a",
		"MATCH (a) RETURN ,a", "MATCH (a) RETURN a,", "MATCH (a) RETURN a,,a", "MATCH (a) RETURN a a", "MATCH (a) RETURN 1", "MATCH (a) RETURN a.", "MATCH (a) RETURN a.1", "MATCH (a) RETURN a.K", "MATCH (a) RETURN A", "MATCH (a) RETURN a.k.j", "MATCH (a) RETURN COUNT.k", "MATCH (a) RETURN COUNT a", "MATCH (a) RETURN COUNT(a)", "MATCH (a) RETURN NULL", "MATCH (a) RETURN *", "MATCH (a) RETURN (a)",
		"MATCH (a) RETURN ORDER BY 1", "MATCH (a) RETURN a ORDER", "MATCH (a) RETURN a ORDER BY", "MATCH (a) RETURN a ORDER 1", "MATCH (a) RETURN a BY 1", "MATCH (a) RETURN a ORDER BY a", "MATCH (a) RETURN a ORDER BY DESC", "MATCH (a) RETURN a ORDER BY 1,1", "MATCH (a) RETURN a ORDER BY 1 1", "MATCH (a) RETURN a ORDER BY 1 DESC DESC", "MATCH (a) RETURN a DESC", "MATCH (a) RETURN a ORDER BY 1 ORDER BY 1",
		"MATCH (a) RETURN a SKIP", "MATCH (a) RETURN a SKIP a", "MATCH (a) RETURN a SKIP 1 SKIP 1", "MATCH (a) RETURN a SKIP 1 ORDER BY 1", "MATCH (a) RETURN a SKIP 1 DESC", "MATCH (a) RETURN a LIMIT", "MATCH (a) RETURN a LIMIT a", "MATCH (a) RETURN a LIMIT 1 LIMIT 1", "MATCH (a) RETURN a LIMIT 1 SKIP 1", "MATCH (a) RETURN a LIMIT 1 ORDER BY 1", "MATCH (a) RETURN a LIMIT 1 1",
		"MATCH (a) SET", "MATCH (a) SET a", "MATCH (a) SET a.k", "MATCH (a) SET a.k=", "MATCH (a) SET a=1", "MATCH (a) SET a.k=a", "MATCH (a) SET a.k=NULL", "MATCH (a) SET a.k=COUNT", "MATCH (a) SET a.k<>1", "MATCH (a) SET a.k:1", "MATCH (a) SET a.k=1,a.j=2", "MATCH (a) SET a.k=1 RETURN a", "MATCH (a) SET 1=a.k", "MATCH (a) SET a.k=a.j.i", "MATCH (a) SET a.K=1",
		"MATCH (a) DELETE", "MATCH (a) DELETE A", "MATCH (a) DELETE (a)", "MATCH (a) DELETE a.k", "MATCH (a) DELETE a,a", "MATCH (a) DELETE a a", "MATCH (a) DELETE 1", "MATCH (a) DELETE COUNT", "MATCH (a) DELETE a RETURN a",
		"MATCH (a) CREATE", "MATCH (a) CREATE (A)", "MATCH (a) CREATE (a)", "MATCH (a) CREATE (a)-[T]->", "MATCH (a) CREATE (a)-[T]->(a", "MATCH (a) CREATE (a:A)-[T]->(a)", "MATCH (a) CREATE (a)-[T]->(a:A)", "MATCH (a) CREATE (a)-[t]->(a)", "MATCH (a) CREATE (a)-[SET]->(a)", "MATCH (a) CREATE (a)-[T*1..1]->(a)", "MATCH (a) CREATE (a)-[T]->(a)-[T]->(a)", "MATCH (a) CREATE (a)-[T]->(a),(a)-[T]->(a)", "MATCH (a) CREATE a-[T]->a", "MATCH (a) CREATE (a)-[T]->(a) RETURN a", "MATCH (a) CREATE (A)-[T]->(a)", "MATCH (a) CREATE (a),(a)",
		"CREATE ()", "CREATE A", "CREATE (a)", "CREATE (A", "CREATE A)", "CREATE (SET)", "CREATE (a:A)", "CREATE (A) (B)", "CREATE (A),(B)", "CREATE (A)-[T]->(B)", "CREATE (a)-[T]->(b)", "CREATE (A) RETURN a", "CREATE (1)", "CREATE (A B)",
		"CREATE (A {})", "CREATE (A {k})", "CREATE (A {k:})", "CREATE (A {k 1})", "CREATE (A {k=1})", "CREATE (A {:1})", "CREATE (A {k:1,})", "CREATE (A {,k:1})", "CREATE (A {k:1 j:1})", "CREATE (A {k:1)", "CREATE (A k:1})", "CREATE (A {k:1}", "CREATE (A){k:1}", "CREATE (A {k:1}{j:1})", "CREATE (A {K:1})", "CREATE (A {SET:1})", "CREATE (A {k:j})", "CREATE (A {k:a.k})", "CREATE (A {k:NULL})", "CREATE (A {1:1})", "CREATE {A}",
		"CALL V", "CALL SET", "CALL 1", "CALL (v)", "CALL v v", "CALL v,v", "CALL v.k", "CALL v RETURN a", "CALL CALL v", "MATCH (a) CALL v",
		"WHERE a.k=1 RETURN a", "SET a.k=1", "DELETE a", "RETURN a", "RETURN COUNT", "MATCH (a) RETURN a;", "MATCH (a)\nRETURN a", "MATCH (a) RETURN a CREATE (A)", "MATCH (abcdefghi) RETURN a",
	} {
		checkRefused(t, s, api.ErrSyntax)
	}
}

func TestParseScope(t *testing.T) {
	for _, s := range []string{
		"MATCH (a) RETURN b", "MATCH (a) RETURN b.k", "MATCH (a) RETURN k", "MATCH (a) RETURN a,COUNT,b", "MATCH (a) RETURN count", "MATCH (a) RETURN aa", "MATCH (aa) RETURN a",
		"MATCH (a) WHERE b.k=1 RETURN a", "MATCH (a) WHERE 1=b.k RETURN a", "MATCH (a) WHERE a.k=b.k RETURN a", "MATCH (a) WHERE b.k IS NULL RETURN a", "MATCH (a) WHERE b.k IS NOT NULL RETURN a", "MATCH (a) WHERE 1=1 AND 1=1 AND b.k=1 RETURN a",
		"MATCH (a) WHERE b.k=1 SET a.k=1", "MATCH (a) WHERE b.k=1 DELETE a", "MATCH (a) WHERE b.k=1 CREATE (a)-[T]->(a)",
		"MATCH (a) SET b.k=1", "MATCH (a) SET b.k=a.k", "MATCH (a) SET b.k=b.k", "MATCH (a) SET a.k=b.k", "MATCH (a),(b) SET a.k=b.k", "MATCH (a),(b) SET b.k=a.k", "MATCH (a)-[T]->(b) SET a.k=b.k",
		"MATCH (a) DELETE b", "MATCH (a:A) DELETE k",
		"MATCH (a) CREATE (b)-[T]->(a)", "MATCH (a) CREATE (a)-[T]->(b)", "MATCH (a) CREATE (b)-[T]->(b)",
	} {
		checkRefused(t, s, api.ErrScope)
	}
	for _, s := range []string{
		"MATCH (a),(b) RETURN b", "MATCH (a)-[T]->(b) WHERE b.k=a.k RETURN b.k", "MATCH (a)-[T]->(b),(c) DELETE c", "MATCH (a)-[T]->(b) CREATE (b)-[T]->(a)", "MATCH (a),(b) SET b.k=b.j", "MATCH (a) SET a.b=a.c", "CALL a", "CREATE (A {k:1})",
	} {
		if _, e := query.Parse(s); e != api.OK {
			t.Errorf("P5: Parse(%q) = %d", s, e)
		}
	}
}

// TestParseSyntaxFirst: of a text that is no query it does not matter what its variables are.
func TestParseSyntaxFirst(t *testing.T) {
	for _, s := range []string{
		"MATCH (a) RETURN b,", "MATCH (a) RETURN b ORDER BY 2", "MATCH (a) RETURN b LIMIT -1", "MATCH (a) RETURN b b", "MATCH (a) WHERE b.k=1", "MATCH (a) WHERE b.k=1 RETURN", "MATCH (a) SET b.k=c.k a", "MATCH (a) DELETE b,c", "MATCH (a) CREATE (b)-[t]->(c)", "MATCH (a),(a),(a),(a),(a),(a),(a) RETURN b", "MATCH (a) RETURN b,b,b,b,b,b,b", "MATCH (a) RETURN b !",
	} {
		checkRefused(t, s, api.ErrSyntax)
	}
}
