// Package word tells words apart, for the language and for the policy.
package word

import "veil/api"

// The kinds of words.
const (
	None = iota // no word at all
	Name
	Title
	Keyword
)

// KindOf tells of which kind of word a text is.
func KindOf(text string) int {
	if !isWord(text) {
		return None
	}
	if 'a' <= text[0] && text[0] <= 'z' {
		return Name
	}
	switch text {
	case "MATCH", "WHERE", "AND", "RETURN", "ORDER", "BY", "DESC", "SKIP", "LIMIT",
		"SET", "DELETE", "CREATE", "CALL", "IS", "NOT", "NULL", "COUNT":
		return Keyword
	}
	return Title
}

func isWord(text string) bool {
	if text == "" || len(text) > api.MaxWord || !IsLetter(text[0]) {
		return false
	}
	for i := range len(text) {
		if !IsLetter(text[i]) && !IsDigit(text[i]) {
			return false
		}
	}
	return true
}

// IsLetter: may this byte begin a word?
func IsLetter(c byte) bool { return 'a' <= c && c <= 'z' || 'A' <= c && c <= 'Z' }

// IsDigit: may this byte stand in a number, or go on with a word?
func IsDigit(c byte) bool { return '0' <= c && c <= '9' }
