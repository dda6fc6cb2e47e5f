package query

import (
	"strconv"
	"strings"

	"veil/api"
	"veil/word"
)

// The states in which a token's first byte puts the machine.
const (
	stateNone    = iota // no token begins so
	stateWord           // in a word
	stateNumber         // in the digits of a number
	stateMinus          // behind -, which is no token by itself
	stateBracket        // behind ], which is no token by itself
	stateDot            // behind ., which may go on
	stateLess           // behind <, which may go on
	stateMore           // behind >, which may go on
	stateMark           // behind a mark that is whole
)

// opening tells the state in which a token's first byte puts the machine.
func opening(c byte) int {
	switch c {
	case '-':
		return stateMinus
	case ']':
		return stateBracket
	case '.':
		return stateDot
	case '<':
		return stateLess
	case '>':
		return stateMore
	case '(', ')', ':', ',', '=', '*', '{', '}':
		return stateMark
	}
	if word.IsLetter(c) {
		return stateWord
	}
	if word.IsDigit(c) {
		return stateNumber
	}
	return stateNone
}

// cutter is the machine that cuts a text: the token in hand goes from byte from up to byte at.
type cutter struct {
	text     string
	from, at int
	list     []api.Token
}

// cut cuts the whole text; it answers whether that could be done.
func (c *cutter) cut() bool {
	for c.at < len(c.text) {
		if !c.takes(' ') && !c.token() {
			return false
		}
	}
	return true
}

// token cuts the token that begins here; it answers whether there is one. Each label is a state.
func (c *cutter) token() bool {
	c.from = c.at
	c.at++
	switch opening(c.text[c.from]) {
	case stateWord:
		goto word
	case stateNumber:
		goto number
	case stateMinus:
		goto minus
	case stateBracket:
		goto bracket
	case stateDot:
		goto dot
	case stateLess:
		goto less
	case stateMore:
		goto more
	case stateMark:
		goto mark
	}
	return false
word:
	if c.goesOn(word.IsLetter) || c.goesOn(word.IsDigit) {
		goto word
	}
	return c.addWord()
minus:
	if c.takes('[') {
		goto mark
	}
	if c.goesOn(word.IsDigit) {
		goto number
	}
	return false
number:
	if c.goesOn(word.IsDigit) {
		goto number
	}
	return c.addNumber()
bracket:
	if c.takes('-') && c.takes('>') {
		goto mark
	}
	return false
dot:
	c.takes('.')
	goto mark
less:
	if c.takes('>') {
		goto mark
	}
	goto more // like >, it may have = behind it
more:
	c.takes('=')
	goto mark
mark:
	c.add(api.Mark, 0)
	return true
}

// goesOn takes the next byte, if it is of this class.
func (c *cutter) goesOn(class func(byte) bool) bool {
	if c.at == len(c.text) || !class(c.text[c.at]) {
		return false
	}
	c.at++
	return true
}

// takes takes the next byte, if it is this one.
func (c *cutter) takes(b byte) bool {
	return c.goesOn(func(next byte) bool { return next == b })
}

// add ends the token. Its text is a copy, so that the tokens keep nothing of what was handed in.
func (c *cutter) add(kind, value int) {
	text := strings.Clone(c.text[c.from:c.at])
	c.list = append(c.list, api.Token{Kind: kind, Text: text, Value: value})
}

// addWord ends a word, if it is not too long.
func (c *cutter) addWord() bool {
	if c.at-c.from > api.MaxWord {
		return false
	}
	c.add(api.Word, 0)
	return true
}

// addNumber ends a number, if it is written as it must be and within its bounds.
func (c *cutter) addNumber() bool {
	text := c.text[c.from:c.at]
	if text != "0" && strings.TrimPrefix(text, "-")[0] == '0' {
		return false
	}
	value, err := strconv.Atoi(text)
	if err != nil || value < -api.MaxInt || value > api.MaxInt {
		return false
	}
	c.add(api.Number, value)
	return true
}
