package query_test

import (
	"reflect"
	"strings"
	"testing"

	"veil/api"
	"veil/query"
)

func TestFormatText(t *testing.T) {
	for text, want := range map[string]string{
		"MATCH(a)RETURN a": "MATCH ( a ) RETURN a",
		"MATCH(a:A)-[T*1..1]->(b)RETURN a,b.k ORDER BY 2 SKIP 0":    "MATCH ( a : A ) -[ T ]-> ( b ) RETURN a , b . k ORDER BY 2",
		"MATCH(a)-[T*0..1]->(b:B)-[T*1..2]->(c)RETURN COUNT":        "MATCH ( a ) -[ T * 0 .. 1 ]-> ( b : B ) -[ T * 1 .. 2 ]-> ( c ) RETURN COUNT",
		"MATCH(a)-[T*0..0]->(b),(c)-[T]->(d),(e)RETURN a":           "MATCH ( a ) -[ T * 0 .. 0 ]-> ( b ) , ( c ) -[ T ]-> ( d ) , ( e ) RETURN a",
		"MATCH(a)WHERE a.k=1 AND 1<>a.k AND a.k<-1 RETURN a":        "MATCH ( a ) WHERE a . k = 1 AND 1 <> a . k AND a . k < -1 RETURN a",
		"MATCH(a)WHERE 0<=a.k AND a.k>a.j AND a.k>=0 RETURN a":      "MATCH ( a ) WHERE 0 <= a . k AND a . k > a . j AND a . k >= 0 RETURN a",
		"MATCH(a)WHERE a.k IS NULL AND 0 IS NOT NULL RETURN a":      "MATCH ( a ) WHERE a . k IS NULL AND 0 IS NOT NULL RETURN a",
		"MATCH(a)RETURN a,COUNT,a.k ORDER BY 3 DESC SKIP 1 LIMIT 0": "MATCH ( a ) RETURN a , COUNT , a . k ORDER BY 3 DESC SKIP 1 LIMIT 0",
		"MATCH(a)RETURN a SKIP 0 LIMIT 1000000000":                  "MATCH ( a ) RETURN a LIMIT 1000000000",
		"MATCH(a)SET a.k=-1000000000":                               "MATCH ( a ) SET a . k = -1000000000",
		"MATCH(a)WHERE 1=1 SET a.k=a.j":                             "MATCH ( a ) WHERE 1 = 1 SET a . k = a . j",
		"MATCH(a)DELETE a":                                          "MATCH ( a ) DELETE a",
		"MATCH(a),(b)CREATE(b)-[T]->(a)":                            "MATCH ( a ) , ( b ) CREATE ( b ) -[ T ]-> ( a )",
		"CREATE(A)":                                                 "CREATE ( A )",
		"CREATE(A{k:0})":                                            "CREATE ( A { k : 0 } )",
		"CREATE(A{k:-1,j:1000000000})":                              "CREATE ( A { k : -1 , j : 1000000000 } )",
		" CALL  v ":                                                 "CALL v",
	} {
		q, e := query.Parse(text)
		if s, f := query.Format(q); e != api.OK || f != api.OK || s != want {
			t.Errorf("P6: Format of %q = %q, %d, %d, want %q", text, s, e, f, want)
		}
	}
}

// TestFormatLongest has as much of everything as there may be, in words and numbers as long as may be.
func TestFormatLongest(t *testing.T) {
	list := func(one, between string) string { return strings.Repeat(one+between, 5) + one }
	for _, want := range []string{
		"MATCH " + list("( abcdefgh : Abcdefgh )", " -[ Abcdefgh * 0 .. 4 ]-> ") + " WHERE " + list("abcdefgh . abcdefgh <= abcdefgh . abcdefgh", " AND ") + " RETURN " + list("abcdefgh . abcdefgh", " , ") + " ORDER BY 6 DESC SKIP 1000000000 LIMIT 1000000000",
		"CREATE ( Abcdefgh { abcdefg1 : -1000000000 , abcdefg2 : -1000000000 , abcdefg3 : -1000000000 , abcdefg4 : -1000000000 , abcdefg5 : -1000000000 , abcdefg6 : -1000000000 } )",
	} {
		q, e := query.Parse(want)
		if s, f := query.Format(q); e != api.OK || f != api.OK || s != want {
			t.Errorf("P6: Format of %q = %q, %d, %d", want, s, e, f)
		}
	}
}

// samples: queries of each kind, that together have all that the kind may have.
func samples(t *testing.T) []api.Query {
	var list []api.Query
	for _, text := range []string{
		"MATCH (a:A)-[T*0..2]->(b),(c) WHERE a.k=1 AND b.k IS NULL RETURN a.k,b,COUNT ORDER BY 2 DESC SKIP 3 LIMIT 4",
		"MATCH (a) RETURN a",
		"MATCH (a:A),(b) WHERE a.k<>b.k SET a.k=a.j",
		"MATCH (a) SET a.k=5",
		"MATCH (a)-[T]->(b) WHERE 1 IS NOT NULL DELETE b",
		"MATCH (a),(b) WHERE a.k>1 CREATE (a)-[T]->(b)",
		"CREATE (A {k:1,j:-2})",
		"CREATE (A)",
		"CALL v",
	} {
		q, e := query.Parse(text)
		if e != api.OK {
			t.Fatalf("Parse(%q) = %d", text, e)
		}
		list = append(list, q)
	}
	return list
}

func checkNotFormatted(t *testing.T, what string, q api.Query) {
	t.Helper()
	if s, e := query.Format(q); s != "" || e != api.ErrSyntax {
		t.Errorf("P6: %s: Format(%+v) = %q, %d", what, q, s, e)
	}
}

// TestFormatForeign lays into each kind of query what only others have.
func TestFormatForeign(t *testing.T) {
	foreign := map[string]struct {
		kinds string // of those that have it themselves
		lay   func(q *api.Query)
	}{
		"spots":   {"RSDL", func(q *api.Query) { q.Spots = []api.Spot{{Name: "a"}} }},
		"conds":   {"RSDL", func(q *api.Query) { q.Conds = []api.Cond{{Op: api.Equal}} }},
		"items":   {"R", func(q *api.Query) { q.Items = []api.Item{{}} }},
		"order":   {"R", func(q *api.Query) { q.Order = 1 }},
		"down":    {"R", func(q *api.Query) { q.Down = true }},
		"skip":    {"R", func(q *api.Query) { q.Skip = 1 }},
		"limit":   {"R", func(q *api.Query) { q.Limit = 1 }},
		"none":    {"R", func(q *api.Query) { q.Limit = -1 }},
		"name":    {"SDLC", func(q *api.Query) { q.Name = "a" }},
		"key":     {"S", func(q *api.Query) { q.Key = "k" }},
		"value":   {"S", func(q *api.Query) { q.Value.Value = 1 }},
		"value's": {"S", func(q *api.Query) { q.Value = prop("a", "k") }},
		"type":    {"L", func(q *api.Query) { q.Type = "T" }},
		"to":      {"L", func(q *api.Query) { q.To = "a" }},
		"label":   {"M", func(q *api.Query) { q.Label = "A" }},
		"pairs":   {"M", func(q *api.Query) { q.Pairs = []api.Pair{{Key: "k"}} }},
	}
	for _, q := range samples(t) {
		own := " RSDLMC"[q.Kind : q.Kind+1]
		for name, f := range foreign {
			if !strings.Contains(f.kinds, own) {
				changed := q
				f.lay(&changed)
				checkNotFormatted(t, name, changed)
			}
		}
	}
}

// TestFormatWrong breaks one thing each of a query that is right.
func TestFormatWrong(t *testing.T) {
	const text = "MATCH (a:A)-[T*0..2]->(b),(c) WHERE a.k=1 AND b.k IS NULL RETURN a.k,b,COUNT ORDER BY 2 DESC SKIP 3 LIMIT 4"
	for name, spoil := range map[string]func(q *api.Query){
		"no spots":               func(q *api.Query) { q.Spots = nil },
		"no items":               func(q *api.Query) { q.Items = []api.Item{} },
		"first spot by a step":   func(q *api.Query) { q.Spots[0].Type, q.Spots[0].Least, q.Spots[0].Most = "T", 1, 1 },
		"hops without a step":    func(q *api.Query) { q.Spots[2].Most = 1 },
		"least without a step":   func(q *api.Query) { q.Spots[0].Least = 1 },
		"too many hops":          func(q *api.Query) { q.Spots[1].Most = 5 },
		"least above most":       func(q *api.Query) { q.Spots[1].Least = 3 },
		"least below 0":          func(q *api.Query) { q.Spots[1].Least = -1 },
		"spot of no name":        func(q *api.Query) { q.Spots[2].Name = "" },
		"seven spots":            func(q *api.Query) { q.Spots = append(q.Spots, make([]api.Spot, 4)...) },
		"six spots, one empty":   func(q *api.Query) { q.Spots = append(q.Spots, api.Spot{}) },
		"a variable not in it":   func(q *api.Query) { q.Spots[1].Name = "d" },
		"no comparison":          func(q *api.Query) { q.Conds[0].Op = 0 },
		"comparison below":       func(q *api.Query) { q.Conds[0].Op = -1 },
		"comparison above":       func(q *api.Query) { q.Conds[0].Op = 9 },
		"IS NULL of two":         func(q *api.Query) { q.Conds[1].B.Value = 1 },
		"IS NOT NULL of two":     func(q *api.Query) { q.Conds[1].Op, q.Conds[1].B = api.IsSome, prop("a", "k") },
		"a property with number": func(q *api.Query) { q.Conds[0].A.Value = 1 },
		"a number with key":      func(q *api.Query) { q.Conds[0].B.Key = "k" },
		"a name without key":     func(q *api.Query) { q.Conds[0].A.Key = "" },
		"a number too great":     func(q *api.Query) { q.Conds[0].B.Value = api.MaxInt + 1 },
		"a number too small":     func(q *api.Query) { q.Conds[0].B.Value = -api.MaxInt - 1 },
		"cond out of scope":      func(q *api.Query) { q.Conds[0].A.Name = "d" },
		"seven conds":            func(q *api.Query) { q.Conds = append(q.Conds, make([]api.Cond, 5)...) },
		"COUNT with key":         func(q *api.Query) { q.Items[2].Key = "k" },
		"item out of scope":      func(q *api.Query) { q.Items[1].Name = "d" },
		"item of two":            func(q *api.Query) { q.Items[1].Name = "a , b" },
		"item COUNT as a name":   func(q *api.Query) { q.Items[1].Name = "COUNT" },
		"item with a tail":       func(q *api.Query) { q.Items[2] = api.Item{Name: "b ORDER BY 1"}; q.Order, q.Down = 0, false },
		"seven items":            func(q *api.Query) { q.Items = append(q.Items, make([]api.Item, 4)...) },
		"order above":            func(q *api.Query) { q.Order = 4 },
		"order below":            func(q *api.Query) { q.Order = -1 },
		"down without order":     func(q *api.Query) { q.Order = 0 },
		"skip below":             func(q *api.Query) { q.Skip = -1 },
		"skip above":             func(q *api.Query) { q.Skip = api.MaxInt + 1 },
		"limit below":            func(q *api.Query) { q.Limit = -2 },
		"limit above":            func(q *api.Query) { q.Limit = api.MaxInt + 1 },
		"kind 0":                 func(q *api.Query) { q.Kind = 0 },
		"kind 7":                 func(q *api.Query) { q.Kind = 7 },
		"kind below":             func(q *api.Query) { q.Kind = -1 },
		"endless name":           func(q *api.Query) { q.Spots[2].Name = strings.Repeat("c", 100000) },
		"endless list":           func(q *api.Query) { q.Spots = make([]api.Spot, 100000) },
	} {
		q, _ := query.Parse(text)
		spoil(&q)
		checkNotFormatted(t, name, q)
	}
	two := []api.Spot{{Name: "a"}, {Name: "b"}}
	for name, q := range map[string]api.Query{
		"nothing":              {},
		"seven pairs":          {Kind: api.Make, Label: "A", Pairs: []api.Pair{{Key: "a"}, {Key: "b"}, {Key: "c"}, {Key: "d"}, {Key: "e"}, {Key: "f"}, {Key: "g"}}},
		"a key twice":          {Kind: api.Make, Label: "A", Pairs: []api.Pair{{Key: "a"}, {Key: "b"}, {Key: "a"}}},
		"a pair's value":       {Kind: api.Make, Label: "A", Pairs: []api.Pair{{Key: "a", Value: 1 << 31}}},
		"no label":             {Kind: api.Make},
		"label with pairs":     {Kind: api.Make, Label: "A { k : 1 }"},
		"key with a pair":      {Kind: api.Make, Label: "A", Pairs: []api.Pair{{Key: "k : 1 , j"}}},
		"no view":              {Kind: api.Call},
		"a set out of another": {Kind: api.Set, Spots: two, Name: "a", Key: "k", Value: prop("b", "k")},
		"a set of none":        {Kind: api.Set, Spots: two, Name: "c", Key: "k"},
		"a set of no key":      {Kind: api.Set, Spots: two, Name: "a"},
		"a link from none":     {Kind: api.Link, Spots: two, Name: "c", Type: "T", To: "a"},
		"a link to none":       {Kind: api.Link, Spots: two, Name: "a", Type: "T", To: "c"},
		"a link of no type":    {Kind: api.Link, Spots: two, Name: "a", To: "b"},
		"a delete of none":     {Kind: api.Delete, Spots: two, Name: "c"},
		"a delete of all":      {Kind: api.Delete, Spots: two},
	} {
		checkNotFormatted(t, name, q)
	}
}

// eachLeaf calls f with each number and text of a query, one by one, and puts it back then.
func eachLeaf(v reflect.Value, f func(leaf reflect.Value)) {
	switch v.Kind() {
	case reflect.Struct:
		for i := range v.NumField() {
			eachLeaf(v.Field(i), f)
		}
	case reflect.Slice:
		for i := range v.Len() {
			eachLeaf(v.Index(i), f)
		}
	default:
		old := reflect.ValueOf(v.Interface())
		f(v)
		v.Set(old)
	}
}

// TestFormatEachWord puts what is no word into each text of each query, and what is no number into each number.
func TestFormatEachWord(t *testing.T) {
	words := []string{"abcdefghi", " ", "a ", " a", "a b", "a\n", "é", "a_", "1", "-1", "1a", "a.k", "a . k", ")", "(", "\x00", "MATCH", "COUNT", "NULL", "Abcdefghi", "A ", " A", "A B", "A_", "9A", "A : B", "T * 1 .. 1"}
	numbers := []int{-1 << 63, -1 << 31, -api.MaxInt - 1, api.MaxInt + 1, 1 << 31, 1<<63 - 1}
	for _, q := range samples(t) {
		v := reflect.ValueOf(&q).Elem()
		eachLeaf(v, func(leaf reflect.Value) {
			switch leaf.Kind() {
			case reflect.String:
				for _, w := range words {
					leaf.SetString(w)
					checkNotFormatted(t, "a wrong word", q)
				}
			case reflect.Int:
				for _, n := range numbers {
					leaf.SetInt(int64(n))
					checkNotFormatted(t, "a wrong number", q)
				}
			}
		})
		if _, e := query.Format(q); e != api.OK {
			t.Errorf("P6: put back: %d", e)
		}
	}
}

// TestFormatEachChange: whatever is put in place of a number or text, what is written is read back as the same, or refused.
func TestFormatEachChange(t *testing.T) {
	words := []string{"", "a", "b", "c", "k", "A", "T", "abcdefgh", "Abcdefgh"}
	for _, q := range samples(t) {
		v := reflect.ValueOf(&q).Elem()
		check := func() {
			s, e := query.Format(q)
			if e == api.ErrSyntax && s == "" {
				return
			}
			if back, f := query.Parse(s); e != api.OK || f != api.OK || !sameQuery(back, q) {
				t.Errorf("P6: Format(%+v) = %q, %d", q, s, e)
			}
		}
		eachLeaf(v, func(leaf reflect.Value) {
			switch leaf.Kind() {
			case reflect.String:
				for _, w := range words {
					leaf.SetString(w)
					check()
				}
			case reflect.Int:
				for n := -2; n <= 10; n++ {
					leaf.SetInt(int64(n))
					check()
				}
			case reflect.Bool:
				leaf.SetBool(!leaf.Bool())
				check()
			}
		})
	}
}
