package text

import "replevin/lex"

// reader takes tokens, one after the other. Where one is wrong, or missing, it stays: it takes none any more.
type reader struct {
	tokens []lex.Token
	at     int
	wrong  bool
}

// take takes the next token, if it fits, and tells whether it did.
func (r *reader) take(fits func(t lex.Token) bool) (lex.Token, bool) {
	if r.wrong || r.at == len(r.tokens) || !fits(r.tokens[r.at]) {
		return lex.Token{}, false
	}
	t := r.tokens[r.at]
	r.at++
	return t, true
}

// must tells the reader whether what has to be there was.
func (r *reader) must(ok bool) {
	r.wrong = r.wrong || !ok
}

// may takes a word of a form, if it is the next token.
func (r *reader) may(word string) bool {
	_, ok := r.take(func(t lex.Token) bool { return t.Kind == lex.Word && t.Text == word })
	return ok
}

func (r *reader) mayName() (string, bool) {
	t, ok := r.take(isName)
	return t.Text, ok
}

func (r *reader) mayNumber() (int, bool) {
	t, ok := r.take(isNumber)
	return t.Value, ok
}

func (r *reader) name() string {
	name, ok := r.mayName()
	r.must(ok)
	return name
}

func (r *reader) number() int {
	n, ok := r.mayNumber()
	r.must(ok)
	return n
}

// option tells the name behind a word that may be left out; without the word, none.
func (r *reader) option(word string) string {
	if r.may(word) {
		return r.name()
	}
	return ""
}

// end tells the reader that no token may be left.
func (r *reader) end() {
	r.must(r.at == len(r.tokens))
}

// isName tells whether a token is a word that none of the forms has for its own.
func isName(t lex.Token) bool {
	switch t.Text {
	case "group", "in", "event", "role", "excluded", "done", "pending", "due",
		"condition", "response", "include", "exclude", "milestone", "user", "roles", "sub":
		return false
	}
	return t.Kind == lex.Word
}

func isNumber(t lex.Token) bool { return t.Kind == lex.Number }
