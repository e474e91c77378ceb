// Package lex is layer 1: see shared/doc/01-lex.md.
package lex

import (
	"slices"
	"strings"

	"replevin/api"
)

// The kinds of tokens.
const (
	Word   = 1
	Number = 2
	Sign   = 3
)

const (
	maxWord   = 20
	maxNumber = 1048576
	maxTokens = 5000
	signText  = ";"
)

// Token is a word, a number or a sign.
type Token struct {
	Kind      int
	Text      string
	Value, At int
}

// Lex tells a text's tokens.
func Lex(s string) ([]Token, int, api.Errno) {
	var l []Token
	at, e := 0, api.OK
tokens:
	for at < len(s) {
		if isGap(s[at]) {
			at++
			continue tokens
		}
		t, ok := take(s, at)
		// What has no form is no token, so it can't be one too many: the form is asked first.
		switch {
		case !ok:
			e = api.ErrForm
			break tokens
		case len(l) == maxTokens:
			e = api.ErrMany
			break tokens
		}
		l = append(l, t)
		at += len(t.Text)
	}
	if e != api.OK {
		return nil, at, e
	}
	return l, 0, api.OK
}

// take tells the token that begins at a place, and whether one does.
func take(s string, at int) (Token, bool) {
	if strings.HasPrefix(s[at:], signText) {
		return Token{Kind: Sign, Text: signText, At: at}, true
	}
	text := run(s[at:])
	if Name(text) {
		return Token{Kind: Word, Text: text, At: at}, true
	}
	if value, ok := number(text); ok {
		return Token{Kind: Number, Text: text, Value: value, At: at}, true
	}
	return Token{}, false
}

// run tells all that a word could take of a text's beginning. A number takes as much, so that one with a letter or `_` right behind it shows as no number.
func run(s string) string {
	end := 0
	for end < len(s) && isInner(s[end]) {
		end++
	}
	return s[:end]
}

// number tells the value of a text that is a number, and whether it is one.
func number(s string) (int, bool) {
	if s == "" || s[0] == '0' && len(s) > 1 {
		return 0, false
	}
	value := 0
	for i := range len(s) {
		if !isDigit(s[i]) {
			return 0, false
		}
		value = value*10 + int(s[i]-'0')
		// Asked at every digit: a long enough row of them would wrap round.
		if value > maxNumber {
			return 0, false
		}
	}
	return value, true
}

// Name tells whether a text is a word.
func Name(s string) bool {
	if s == "" || len(s) > maxWord || !isLetter(s[0]) {
		return false
	}
	return len(run(s)) == len(s)
}

// Join tells tokens' text.
func Join(l []Token) string {
	var b strings.Builder
	// A text's beginning parts as well as the line feed of a sign does.
	parted := true
	for _, t := range l {
		sign := t.Text == signText
		if !parted && !sign {
			b.WriteByte(' ')
		}
		b.WriteString(t.Text)
		if sign {
			b.WriteByte('\n')
		}
		parted = sign
	}
	return b.String()
}

// Statements parts tokens.
func Statements(l []Token) ([][]Token, int, api.Errno) {
	// The parts are cut from a copy: the argument stays the caller's own.
	own := slices.Clone(l)
	var parts [][]Token
	start := 0
	for i, t := range own {
		if t.Kind != Sign {
			continue
		}
		// The capacity ends with the part, so that what is appended to one doesn't run into the next.
		parts = append(parts, own[start:i:i])
		start = i + 1
	}
	if start < len(own) {
		return nil, own[start].At, api.ErrForm
	}
	return parts, 0, api.OK
}

func isGap(c byte) bool { return c == ' ' || c == '\n' }

func isLetter(c byte) bool { return 'a' <= c && c <= 'z' }

func isDigit(c byte) bool { return '0' <= c && c <= '9' }

// isInner tells whether a byte may stand behind a word's first one.
func isInner(c byte) bool { return isLetter(c) || isDigit(c) || c == '_' }
