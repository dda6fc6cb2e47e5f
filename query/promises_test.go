package query_test

import (
	"math/rand"
	"reflect"
	"slices"
	"strings"
	"testing"

	"veil/api"
	"veil/query"
)

// checkCalls asks all calls with a text: none may panic, and beside an error there is nothing.
func checkCalls(t *testing.T, text string) {
	t.Helper()
	l, e := query.Tokens(text)
	if e != api.OK && (e != api.ErrSyntax || len(l) != 0) {
		t.Errorf("P1: Tokens(%q) = %v, %d", text, l, e)
	}
	q, f := query.Parse(text)
	if f != api.OK && (f != api.ErrSyntax && f != api.ErrScope || !reflect.DeepEqual(q, api.Query{})) {
		t.Errorf("P1: Parse(%q) = %+v, %d", text, q, f)
	}
	if f == api.OK && e != api.OK {
		t.Errorf("P5: Parse(%q) reads what has no tokens", text)
	}
	if s, g := query.Format(q); (g == api.OK) != (f == api.OK) || g != api.OK && (g != api.ErrSyntax || s != "") {
		t.Errorf("P1, P6: Format of %q = %q, %d", text, s, g)
	}
}

func TestAnyText(t *testing.T) {
	r := rand.New(rand.NewSource(1))
	for range 5000 {
		b := make([]byte, r.Intn(40))
		r.Read(b)
		checkCalls(t, string(b))
	}
	for _, piece := range []string{"(", "-[", "]", "{", "a ", "a.", "MATCH ", "MATCH (a) ", "CREATE (", "(a)-[T]->", "1 ", "-", " ", "\x00", "\xff", "é", "AND ", ",", "COUNT,"} {
		for _, head := range []string{"", "MATCH ", "MATCH (a) WHERE ", "MATCH (a) RETURN ", "CREATE (A {", "CALL "} {
			for _, n := range []int{1, 2, 7, 400, 100000} {
				checkCalls(t, head+strings.Repeat(piece, n))
			}
		}
	}
}

// anyValue fills numbers, texts and lists with whatever comes.
func anyValue(r *rand.Rand, v reflect.Value) {
	texts := []string{"", "a", "b", "A", "k", "a b", "MATCH", "\xff", "abcdefghi", "-[", "\x00"}
	numbers := []int64{-1 << 63, -1000000001, -2, -1, 0, 1, 2, 3, 4, 5, 6, 7, 8, 9, 1000000001, 1<<63 - 1}
	switch v.Kind() {
	case reflect.Struct:
		for i := range v.NumField() {
			anyValue(r, v.Field(i))
		}
	case reflect.Slice:
		v.Set(reflect.MakeSlice(v.Type(), r.Intn(9), 12))
		for i := range v.Len() {
			anyValue(r, v.Index(i))
		}
	case reflect.String:
		v.SetString(texts[r.Intn(len(texts))])
	case reflect.Int:
		v.SetInt(numbers[r.Intn(len(numbers))])
	case reflect.Bool:
		v.SetBool(r.Intn(2) == 0)
	}
}

func TestAnyQuery(t *testing.T) {
	r := rand.New(rand.NewSource(2))
	for range 20000 {
		var q api.Query
		anyValue(r, reflect.ValueOf(&q).Elem())
		q.Kind = r.Intn(9) - 1
		s, e := query.Format(q)
		if e != api.OK && (e != api.ErrSyntax || s != "") {
			t.Errorf("P1: Format(%+v) = %q, %d", q, s, e)
		}
		if back, f := query.Parse(s); e == api.OK && (f != api.OK || !sameQuery(back, q)) {
			t.Errorf("P6: Format(%+v) = %q", q, s)
		}
	}
}

const richText = "MATCH (a:A)-[T*0..2]->(b),(c) WHERE a.k=1 AND b.k IS NULL RETURN a.k,b,COUNT ORDER BY 2 DESC SKIP 3 LIMIT 4"

const richMake = "CREATE (A {k:1,j:2,i:3})"

// spoil writes into a list and its spare room.
func spoil[T any](list []T) {
	clear(list[:cap(list)])
}

// TestNewMemory: what is done to a list that came out is not seen in another one, nor by the next call.
func TestNewMemory(t *testing.T) {
	l, _ := query.Tokens(richText)
	m, _ := query.Tokens(richText)
	want := slices.Clone(m)
	spoil(l)
	if n, e := query.Tokens(richText); e != api.OK || !reflect.DeepEqual(m, want) || !reflect.DeepEqual(n, want) {
		t.Errorf("P2: Tokens = %v, then %v, %d", m, n, e)
	}
	for _, text := range []string{richText, richMake} {
		p, _ := query.Parse(text)
		q, _ := query.Parse(text)
		written, _ := query.Format(q)
		spoil(p.Spots)
		spoil(p.Conds)
		spoil(p.Items)
		spoil(p.Pairs)
		if s, e := query.Format(q); s != written || e != api.OK {
			t.Errorf("P2: the query has become %q, %d", s, e)
		}
		again, _ := query.Parse(text)
		if s, e := query.Format(again); s != written || e != api.OK {
			t.Errorf("P2: Parse gives then %q, %d", s, e)
		}
	}
}

// roomy gives a list with spare room that is filled, and a copy of all that.
func roomy[T any](list []T, filler T) (roomed, all []T) {
	all = append(slices.Clone(list), filler, filler, filler)
	roomed = slices.Clone(all)
	return roomed[:len(list)], all
}

// TestFormatOnlyReads: what is handed in is not written into, nor what stands behind a list.
func TestFormatOnlyReads(t *testing.T) {
	for _, text := range []string{richText, richMake} {
		q, _ := query.Parse(text)
		written, _ := query.Format(q)
		var spots []api.Spot
		var conds []api.Cond
		var items []api.Item
		var pairs []api.Pair
		q.Spots, spots = roomy(q.Spots, api.Spot{Name: "x"})
		q.Conds, conds = roomy(q.Conds, api.Cond{Op: 99})
		q.Items, items = roomy(q.Items, api.Item{Name: "x"})
		q.Pairs, pairs = roomy(q.Pairs, api.Pair{Key: "x"})
		for range 2 {
			if s, e := query.Format(q); s != written || e != api.OK {
				t.Errorf("P2: Format = %q, %d, want %q", s, e, written)
			}
		}
		if !slices.Equal(q.Spots[:cap(q.Spots)][:len(spots)], spots) || !slices.Equal(q.Conds[:cap(q.Conds)][:len(conds)], conds) ||
			!slices.Equal(q.Items[:cap(q.Items)][:len(items)], items) || !slices.Equal(q.Pairs[:cap(q.Pairs)][:len(pairs)], pairs) {
			t.Errorf("P2: Format wrote into %+v", q)
		}
	}
}

// TestEmptyLists: a list without elements may be nil or not.
func TestEmptyLists(t *testing.T) {
	for _, text := range []string{"MATCH (a) RETURN a", "MATCH (a) DELETE a", "MATCH (a) SET a.k=1", "MATCH (a) CREATE (a)-[T]->(a)", "CREATE (A)", "CALL v"} {
		q, _ := query.Parse(text)
		want, _ := query.Format(plain(q))
		if len(q.Spots) == 0 {
			q.Spots = []api.Spot{}
		}
		if len(q.Conds) == 0 {
			q.Conds = []api.Cond{}
		}
		if len(q.Items) == 0 {
			q.Items = []api.Item{}
		}
		if len(q.Pairs) == 0 {
			q.Pairs = []api.Pair{}
		}
		if s, e := query.Format(q); s != want || e != api.OK || s == "" {
			t.Errorf("P2: Format with empty lists = %q, %d, want %q", s, e, want)
		}
	}
}

// TestSameAgain: an answer depends on nothing but the text, whatever was asked in between.
func TestSameAgain(t *testing.T) {
	asked := []string{richText, "MATCH (a) RETURN b", richMake, "", "MATCH (a) RETURN", "CALL v", "CREATE (A)", "!", "MATCH (a),(b) SET a.k=b.k"}
	type answer struct {
		tokens         []api.Token
		parsed         api.Query
		written        string
		cut, read, put api.Errno
	}
	ask := func(text string) (a answer) {
		a.tokens, a.cut = query.Tokens(text)
		a.parsed, a.read = query.Parse(text)
		a.written, a.put = query.Format(a.parsed)
		return a
	}
	first := map[string]answer{}
	for _, text := range asked {
		first[text] = ask(text)
	}
	slices.Reverse(asked)
	for _, text := range asked {
		if again := ask(text); !reflect.DeepEqual(again, first[text]) {
			t.Errorf("P2: %q is answered by %+v, then by %+v", text, first[text], again)
		}
	}
}

func FuzzCalls(f *testing.F) {
	for _, text := range []string{richText, richMake, "CALL v", "MATCH (a) SET a.k=a.j", "MATCH (a) DELETE a", "MATCH (a) CREATE (a)-[T]->(a)", "1..2<>-3]->"} {
		f.Add(text)
	}
	f.Fuzz(func(t *testing.T, text string) {
		if len(text) > api.MaxText {
			text = text[:api.MaxText+1]
		} else {
			checkTokens(t, text)
			checkGrammar(t, text)
		}
		checkCalls(t, text)
	})
}
