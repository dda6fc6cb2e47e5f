package query_test

import (
	"math/rand"
	"regexp"
	"slices"
	"strconv"
	"strings"
	"testing"

	"veil/api"
	"veil/query"
)

// The grammar of P4 once more, over texts in which each name is n, each title t, each number 0, and one blank stands behind each token.
const (
	termForm  = `(?:0 |n \. n )`
	condForm  = `(?:` + termForm + `(?:(?:=|<>|<|<=|>|>=) ` + termForm + `|IS NULL |IS NOT NULL ))`
	spotForm  = `\( n (?:: t )?\) `
	stepForm  = `-\[ t (?:\* 0 \.\. 0 )?\]-> `
	pathForm  = spotForm + `(?:` + stepForm + spotForm + `)*`
	matchForm = `MATCH ` + pathForm + `(?:, ` + pathForm + `)*(?:WHERE ` + condForm + `(?:AND ` + condForm + `)*)?`
	itemForm  = `(?:COUNT |n \. n |n )`
	readForm  = matchForm + `RETURN ` + itemForm + `(?:, ` + itemForm + `)*(?:ORDER BY 0 (?:DESC )?)?(?:SKIP 0 )?(?:LIMIT 0 )?`
	setForm   = matchForm + `SET n \. n = ` + termForm
	dropForm  = matchForm + `DELETE n `
	linkForm  = matchForm + `CREATE \( n \) -\[ t \]-> \( n \) `
	makeForm  = `CREATE \( t (?:\{ n : 0 (?:, n : 0 )*\} )?\) `
)

var queryForm = regexp.MustCompile(`^(?:` + readForm + `|` + setForm + `|` + dropForm + `|` + linkForm + `|` + makeForm + `|CALL n )$`)

var keywords = strings.Fields("MATCH WHERE AND RETURN ORDER BY DESC SKIP LIMIT SET DELETE CREATE CALL IS NOT NULL COUNT")

// shape writes tokens as queryForm has them.
func shape(tokens []api.Token) string {
	var b strings.Builder
	for _, t := range tokens {
		switch {
		case t.Kind == api.Number:
			b.WriteString("0 ")
		case t.Kind == api.Word && t.Text[0] >= 'a':
			b.WriteString("n ")
		case t.Kind == api.Word && !slices.Contains(keywords, t.Text):
			b.WriteString("t ")
		default:
			b.WriteString(t.Text + " ")
		}
	}
	return b.String()
}

// texts gives the tokens' texts; that of one that there is not is empty.
func texts(tokens []api.Token) func(i int) string {
	return func(i int) string {
		if i < 0 || i >= len(tokens) {
			return ""
		}
		return tokens[i].Text
	}
}

// withinBounds: does a text of the right shape keep the bounds of P4? It is asked of the tokens alone.
func withinBounds(tokens []api.Token) bool {
	text := texts(tokens)
	spots, conds, items, pairs := 0, 0, 0, map[string]int{}
	part, numPairs, ok := "", 0, true
	for i, t := range tokens {
		switch t.Text {
		case "MATCH", "WHERE", "RETURN", "SET", "DELETE", "CREATE", "ORDER", "SKIP", "LIMIT":
			part = t.Text
		}
		switch {
		case part == "MATCH" && t.Text == "(":
			spots++
		case t.Text == "WHERE", t.Text == "AND":
			conds++
		case t.Text == "RETURN", part == "RETURN" && t.Text == ",":
			items++
		case part == "CREATE" && (t.Text == "{" || t.Text == ","):
			numPairs++
			pairs[text(i+1)]++
		case t.Text == "..":
			ok = ok && 0 <= tokens[i-1].Value && tokens[i-1].Value <= tokens[i+1].Value && tokens[i+1].Value <= 4
		case t.Text == "BY":
			ok = ok && 1 <= tokens[i+1].Value && tokens[i+1].Value <= items
		case t.Text == "SKIP", t.Text == "LIMIT":
			ok = ok && 0 <= tokens[i+1].Value
		}
	}
	return ok && spots <= 6 && conds <= 6 && items <= 6 && numPairs <= 6 && len(pairs) == numPairs
}

// withinScope: are the variables of a query those that P5 lets it have? It is asked of the tokens alone.
func withinScope(tokens []api.Token) bool {
	text := texts(tokens)
	if text(0) != "MATCH" {
		return true
	}
	spots := map[string]bool{}
	behind, set := false, ""
	for i, t := range tokens {
		switch t.Text {
		case "SET":
			set = text(i + 1)
			behind = true
		case "WHERE", "RETURN", "DELETE", "CREATE":
			behind = true
		}
		name := t.Kind == api.Word && t.Text[0] >= 'a'
		switch {
		case name && !behind:
			spots[t.Text] = true
		case name && text(i-1) != "." && (!spots[t.Text] || set != "" && t.Text != set):
			return false
		}
	}
	return true
}

// wantedParse tells what Parse must answer, and Format of it.
func wantedParse(text string) (string, api.Errno) {
	tokens, e := query.Tokens(text)
	if e != api.OK || !queryForm.MatchString(shape(tokens)) || !withinBounds(tokens) {
		return "", api.ErrSyntax
	}
	if !withinScope(tokens) {
		return "", api.ErrScope
	}
	var words []string
	for _, t := range tokens {
		words = append(words, t.Text)
	}
	s := strings.Join(words, " ") + " "
	s = strings.ReplaceAll(s, "* 1 .. 1 ", "")
	s = strings.ReplaceAll(s, "SKIP 0 ", "")
	return strings.TrimSuffix(s, " "), api.OK
}

// checkGrammar holds Parse and Format against the grammar above; it answers what was asked for.
func checkGrammar(t *testing.T, text string) api.Errno {
	t.Helper()
	want, wantErrno := wantedParse(text)
	q, e := query.Parse(text)
	if e != wantErrno {
		t.Errorf("P4, P5: Parse(%q) = %d, want %d", text, e, wantErrno)
		return e
	}
	if e != api.OK {
		return e
	}
	s, f := query.Format(q)
	if s != want || f != api.OK {
		t.Errorf("P6: Format of %q = %q, %d, want %q", text, s, f, want)
	}
	if back, g := query.Parse(s); g != api.OK || !sameQuery(back, q) {
		t.Errorf("P6: %q is read back as %+v, %d, want %+v", s, back, g, q)
	}
	return e
}

// dice writes queries by the grammar, with each choice by chance; the source is always the same one.
type dice struct{ *rand.Rand }

func (d dice) one(of ...string) string { return of[d.Intn(len(of))] }

func (d dice) maybe(text string) string { return d.one("", text) }

func (d dice) list(most int, between string, one func() string) string {
	text := one()
	for range d.Intn(most) {
		text += between + one()
	}
	return text
}

func (d dice) name() string  { return d.one("a", "b", "a", "b", "a", "b", "c") }
func (d dice) title() string { return d.one("A", "T", "Ab9") }
func (d dice) num() string   { return strconv.Itoa(d.Intn(9) - 2) }
func (d dice) hop() string   { return strconv.Itoa(d.Intn(6)) }

func (d dice) prop() string { return d.name() + " . " + d.one("k", "j") }

func (d dice) term() string {
	if d.Intn(2) == 0 {
		return d.num()
	}
	return d.prop()
}

func (d dice) cond() string {
	return d.term() + " " + d.one("= "+d.term(), "<> "+d.term(), "< "+d.term(), "<= "+d.term(), "> "+d.term(), ">= "+d.term(), "IS NULL", "IS NOT NULL")
}

func (d dice) spot() string { return "( " + d.name() + " " + d.maybe(": "+d.title()+" ") + ")" }

func (d dice) path() string {
	text := d.spot()
	for range d.Intn(3) {
		text += " -[ " + d.title() + " " + d.maybe("* "+d.hop()+" .. "+d.hop()+" ") + "]-> " + d.spot()
	}
	return text
}

func (d dice) item() string { return d.one(d.name(), d.prop(), "COUNT") }

func (d dice) pair() string { return d.one("a", "b", "c", "d", "e", "f", "g", "h") + " : " + d.num() }

func (d dice) query() string {
	match := "MATCH ( a ) , ( b ) " + d.maybe(", "+d.list(3, " , ", d.path)+" ") + d.maybe("WHERE "+d.list(4, " AND ", d.cond)+" ")
	read := match + "RETURN " + d.list(7, " , ", d.item) + d.maybe(" ORDER BY "+d.num()+d.maybe(" DESC")) + d.maybe(" SKIP "+d.num()) + d.maybe(" LIMIT "+d.num())
	return d.one(read, read, match+"SET "+d.prop()+" = "+d.term(), match+"DELETE "+d.name(),
		match+"CREATE ( "+d.name()+" ) -[ "+d.title()+" ]-> ( "+d.name()+" )",
		"CREATE ( "+d.title()+" "+d.maybe("{ "+d.list(7, " , ", d.pair)+" } ")+")", "CALL "+d.name())
}

// TestGrammarByChance: queries and what comes of them when a token is left out, doubled, moved or put in place of another.
func TestGrammarByChance(t *testing.T) {
	d := dice{rand.New(rand.NewSource(4))}
	all := strings.Fields("MATCH WHERE AND RETURN ORDER BY DESC SKIP LIMIT SET DELETE CREATE CALL IS NOT NULL COUNT -[ ]-> .. <= >= <> ( ) : , . = < > * { } a b A 0 1 -1 7")
	seen := map[api.Errno]int{}
	for range 20000 {
		text := d.query()
		seen[checkGrammar(t, text)]++
		words := strings.Fields(text)
		i, j := d.Intn(len(words)), d.Intn(len(words))
		for _, spoiled := range [][]string{
			slices.Delete(slices.Clone(words), i, i+1),
			slices.Insert(slices.Clone(words), i, words[j]),
			slices.Insert(slices.Clone(words), i, all[d.Intn(len(all))]),
			slices.Replace(slices.Clone(words), i, i+1, all[d.Intn(len(all))]),
			words[:i],
			append(slices.Clone(words[:i]), words[j:]...),
		} {
			seen[checkGrammar(t, strings.Join(spoiled, " "))]++
		}
	}
	for _, e := range []api.Errno{api.OK, api.ErrSyntax, api.ErrScope} {
		if seen[e] < 1000 {
			t.Errorf("only %d texts with the answer %d", seen[e], e)
		}
	}
}

// TestGrammarShort: all texts of up to four tokens.
func TestGrammarShort(t *testing.T) {
	all := strings.Fields("MATCH RETURN CREATE CALL COUNT ( ) { : a A 1")
	list := []string{""}
	for range 4 {
		var longer []string
		for _, s := range list {
			for _, w := range all {
				longer = append(longer, s+w+" ")
			}
		}
		for _, s := range longer {
			checkGrammar(t, s)
		}
		list = longer
	}
}

// TestGrammarEachStep: a query with all that it may have, with each token left out and each in place of each other.
func TestGrammarEachStep(t *testing.T) {
	for _, text := range []string{
		"MATCH ( a : A ) -[ T * 1 .. 1 ]-> ( b ) , ( a ) WHERE a . k = 1 AND 2 >= b . k AND a . k IS NOT NULL RETURN a , b . k , COUNT ORDER BY 2 DESC SKIP 0 LIMIT 0",
		"MATCH ( a ) , ( b ) WHERE a . k IS NULL SET a . k = a . j",
		"MATCH ( a ) , ( b ) DELETE a",
		"MATCH ( a ) , ( b ) CREATE ( a ) -[ T ]-> ( b )",
		"CREATE ( A { a : 1 , b : -1 } )",
		"CALL a",
	} {
		if e := checkGrammar(t, text); e != api.OK {
			t.Errorf("P4: Parse(%q) = %d", text, e)
		}
		words := strings.Fields(text)
		for i := range words {
			checkGrammar(t, strings.Join(slices.Delete(slices.Clone(words), i, i+1), " "))
			for _, w := range words {
				checkGrammar(t, strings.Join(slices.Replace(slices.Clone(words), i, i+1, w), " "))
				checkGrammar(t, strings.Join(slices.Insert(slices.Clone(words), i, w), " "))
			}
		}
	}
}
