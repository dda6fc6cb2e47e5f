package word_test

import (
	"strings"
	"testing"

	"veil/word"
)

func TestKindOf(t *testing.T) {
	kinds := []struct {
		kind  int
		texts []string
	}{
		{word.Name, []string{"a", "z", "aB9", "match", "role", "abcdefgh", "a1234567", "cOUNT"}},
		{word.Title, []string{"A", "Z", "Ab9", "Match", "MATCHX", "MATC", "ABCDEFGH", "A0", "Is", "IN", "OR"}},
		{word.Keyword, strings.Fields("MATCH WHERE AND RETURN ORDER BY DESC SKIP LIMIT SET DELETE CREATE CALL IS NOT NULL COUNT")},
		{word.None, []string{"", " ", "1", "1a", "_a", "a_b", "a ", " a", "a.b", "abcdefghi", "ABCDEFGHI", "é", "aé", "a\x00", "a\n", "-", "@", "[", "`", "{", "a/", "a:", "a@", "a[", "a`", "a{"}},
	}
	for _, c := range kinds {
		for _, text := range c.texts {
			if got := word.KindOf(text); got != c.kind {
				t.Errorf("KindOf(%q) = %d, want %d", text, got, c.kind)
			}
		}
	}
}

func TestKindsOfBytes(t *testing.T) {
	const letters = "abcdefghijklmnopqrstuvwxyzABCDEFGHIJKLMNOPQRSTUVWXYZ"
	for i := range 256 {
		c := byte(i)
		if got, want := word.IsLetter(c), strings.IndexByte(letters, c) >= 0; got != want {
			t.Errorf("IsLetter(%d) = %v", i, got)
		}
		if got, want := word.IsDigit(c), strings.IndexByte("0123456789", c) >= 0; got != want {
			t.Errorf("IsDigit(%d) = %v", i, got)
		}
	}
}
