package query_test

import (
	"math/rand"
	"reflect"
	"regexp"
	"strconv"
	"strings"
	"testing"

	"veil/api"
	"veil/query"
)

func word(s string) api.Token { return api.Token{Kind: api.Word, Text: s} }

func mark(s string) api.Token { return api.Token{Kind: api.Mark, Text: s} }

func number(v int) api.Token {
	return api.Token{Kind: api.Number, Text: strconv.Itoa(v), Value: v}
}

// sameTokens: a list without elements may be nil or not.
func sameTokens(a, b []api.Token) bool {
	return len(a) == 0 && len(b) == 0 || reflect.DeepEqual(a, b)
}

func TestTokensCut(t *testing.T) {
	marks := []string{"-[", "]->", "..", "<=", ">=", "<>", "(", ")", ":", ",", ".", "=", "<", ">", "*", "{", "}"}
	for _, m := range marks {
		if l, e := query.Tokens(m); e != api.OK || !sameTokens(l, []api.Token{mark(m)}) {
			t.Errorf("P3: Tokens(%q) = %v, %d", m, l, e)
		}
	}
	for _, c := range []struct {
		text string
		want []api.Token
	}{
		{"", nil},
		{" ", nil},
		{"  a  b ", []api.Token{word("a"), word("b")}},
		{"a.k<=-5", []api.Token{word("a"), mark("."), word("k"), mark("<="), number(-5)}},
		{"-[T]->(", []api.Token{mark("-["), word("T"), mark("]->"), mark("(")}},
		{"Z9z0", []api.Token{word("Z9z0")}},
		{"abcdefg8", []api.Token{word("abcdefg8")}},
		{"abcdefgh ijklmnop", []api.Token{word("abcdefgh"), word("ijklmnop")}},
		{"12ab34", []api.Token{number(12), word("ab34")}},
		{"0a", []api.Token{number(0), word("a")}},
		{"0 0", []api.Token{number(0), number(0)}},
		{"0-1", []api.Token{number(0), number(-1)}},
		{"a-1", []api.Token{word("a"), number(-1)}},
		{"1000000000-1000000000", []api.Token{number(1000000000), number(-1000000000)}},
		{"1..4", []api.Token{number(1), mark(".."), number(4)}},
		{"....", []api.Token{mark(".."), mark("..")}},
		{". .", []api.Token{mark("."), mark(".")}},
		{"< =", []api.Token{mark("<"), mark("=")}},
		{"<<>>=", []api.Token{mark("<"), mark("<>"), mark(">=")}},
		{">==<", []api.Token{mark(">="), mark("="), mark("<")}},
		{"<-[", []api.Token{mark("<"), mark("-[")}},
		{"]->-[", []api.Token{mark("]->"), mark("-[")}},
		{"-[-3", []api.Token{mark("-["), number(-3)}},
	} {
		if l, e := query.Tokens(c.text); e != api.OK || !sameTokens(l, c.want) {
			t.Errorf("P3: Tokens(%q) = %v, %d, want %v", c.text, l, e, c.want)
		}
	}
}

func TestTokensRefused(t *testing.T) {
	for _, s := range []string{
		"abcdefghi", "a abcdefgh9", strings.Repeat("a", 2000),
		"00", "01", "007", "-0", "-00", "-01", "1 -0", "0-0",
		"1000000001", "-1000000001", "9999999999", "-9999999999", "18446744073709551617", strings.Repeat("9", 2000), "-" + strings.Repeat("9", 1999),
		"-", "- 1", "--1", "-a", "->", "- [", "[", "]", "]-", "] ->", "]- >", "]--", "]-1", "]>",
		"!", "a!", "a_b", "_", "'", "\"", ";", "+1", "1+1", "/", "|", "&", "#", "$", "@", "?", "^", "~", "`", "\\", "%",
		"\t", "a\tb", "\n", "a\n", "\r", "\v", "\f", "\x00", "a\x00", "\x7f", "\x80", "\xff", "é", "aé", "ａ", "\u00a0", "\u2003", "٣",
		"/a", "@a", "[a", "`a", "a/", "a@", "a[", "a`", // the bytes beside digits and letters
	} {
		if l, e := query.Tokens(s); e != api.ErrSyntax || l != nil {
			t.Errorf("P3: Tokens(%.40q) = %v, %d", s, l, e)
		}
	}
}

func TestTokensLongestText(t *testing.T) {
	for _, c := range []struct {
		piece string
		count int
	}{{" ", 0}, {"(", 2000}, {"a ", 1000}, {"-[", 1000}, {"-1 1", 1000}} {
		whole := strings.Repeat(c.piece, api.MaxText/len(c.piece))
		if l, e := query.Tokens(whole); e != api.OK || len(l) != c.count {
			t.Errorf("P3: %d bytes of %q: %d tokens, %d", len(whole), c.piece, len(l), e)
		}
		if l, e := query.Tokens(whole + " "); e != api.ErrSyntax || l != nil {
			t.Errorf("P3: a byte more than %d of %q: %d tokens, %d", len(whole), c.piece, len(l), e)
		}
	}
}

// oneToken has the texts that P3 calls tokens, whether or not they are refused for their length or value.
var oneToken = regexp.MustCompile(`^(?:[a-zA-Z][a-zA-Z0-9]*|-?[0-9]+|-\[|\]->|\.\.|<=|>=|<>|[():,.=<>*{}])$`)

// slowTokens cuts a text by the words of P3: of all beginnings that are a token the longest one.
func slowTokens(text string) ([]api.Token, bool) {
	var list []api.Token
	for text != "" {
		if text[0] == ' ' {
			text = text[1:]
			continue
		}
		n := len(text)
		for n > 0 && !oneToken.MatchString(text[:n]) {
			n--
		}
		if n == 0 {
			return nil, false
		}
		token, ok := slowToken(text[:n])
		if !ok {
			return nil, false
		}
		list, text = append(list, token), text[n:]
	}
	return list, true
}

func slowToken(s string) (api.Token, bool) {
	if c := s[0] | 32; 'a' <= c && c <= 'z' {
		return word(s), len(s) <= 8
	}
	if strings.ContainsAny(s, "0123456789") {
		v, err := strconv.ParseInt(s, 10, 64)
		// Written back it is the same only without a 0 ahead and without -0.
		return number(int(v)), err == nil && strconv.FormatInt(v, 10) == s && -1000000000 <= v && v <= 1000000000
	}
	return mark(s), true
}

func checkTokens(t *testing.T, text string) {
	t.Helper()
	want, ok := slowTokens(text)
	l, e := query.Tokens(text)
	if ok && (e != api.OK || !sameTokens(l, want)) || !ok && (e != api.ErrSyntax || l != nil) {
		t.Errorf("P3: Tokens(%q) = %v, %d, want %v, %v", text, l, e, want, ok)
	}
}

func TestTokensAllShortTexts(t *testing.T) {
	const letters = " -[]>.<=01aA(_"
	texts := []string{""}
	for range 4 {
		var longer []string
		for _, s := range texts {
			for i := range len(letters) {
				longer = append(longer, s+letters[i:i+1])
			}
		}
		for _, s := range longer {
			checkTokens(t, s)
		}
		texts = longer
	}
}

func TestTokensAllBytes(t *testing.T) {
	for a := range 256 {
		checkTokens(t, string([]byte{byte(a)}))
		for b := range 256 {
			checkTokens(t, string([]byte{byte(a), byte(b)}))
		}
	}
}

func TestTokensLongerTexts(t *testing.T) {
	r := rand.New(rand.NewSource(3))
	pieces := []string{" ", "-", "[", "]", "->", "-[", "]->", ".", "<", ">", "=", "*", "{", "}", "(", ")", ":", ",", "0", "1", "9", "10", "99999999", "a", "Z", "abcd", "MATCH", "k9"}
	for range 30000 {
		var b strings.Builder
		for range r.Intn(8) {
			b.WriteString(pieces[r.Intn(len(pieces))])
		}
		checkTokens(t, b.String())
	}
}
