package text

import (
	"strconv"

	"replevin/api"
	"replevin/lex"
)

// line tells the tokens of a statement, and its sign. Their texts are all that is asked of them.
func line(words ...string) []lex.Token {
	var l []lex.Token
	for _, w := range words {
		l = append(l, lex.Token{Text: w})
	}
	return append(l, lex.Token{Text: ";"})
}

func groupWords(p api.Group) []string {
	return option([]string{"group", p.Name}, "in", p.Parent)
}

func eventWords(v api.Event) []string {
	l := option([]string{"event", v.Name}, "in", v.Group)
	l = append(l, "role", v.Role)
	if !v.In {
		l = append(l, "excluded")
	}
	if v.Done {
		l = append(l, "done")
	}
	switch v.Due {
	case -1:
		return l
	case api.Never:
		return append(l, "pending")
	}
	return append(l, "due", strconv.Itoa(v.Due))
}

func relationWords(r api.Relation) []string {
	l := []string{kindWord(r.Kind), r.From, r.To}
	if r.Time == untold(r.Kind) {
		return l
	}
	return append(l, strconv.Itoa(r.Time))
}

func userWords(u api.User) []string {
	l := append([]string{"user", u.Name, "roles"}, u.Roles...)
	return option(l, "sub", u.Sub)
}

// option tells the words with two more behind them, if there is such a name.
func option(l []string, word, name string) []string {
	if name == "" {
		return l
	}
	return append(l, word, name)
}
