package text_test

import (
	"reflect"
	"slices"
	"strconv"
	"strings"
	"testing"

	"replevin/api"
	"replevin/graph"
	"replevin/lex"
	"replevin/text"
)

// formWords are the words that are no names.
const formWords = "group in event role excluded done pending due condition response include exclude milestone user roles sub"

// told is a text of statements, without a last `;`, and its graph.
type told struct {
	s string
	g api.Graph
}

func ofGroup(p api.Group) api.Graph       { return api.Graph{Groups: []api.Group{p}} }
func ofEvent(v api.Event) api.Graph       { return api.Graph{Events: []api.Event{v}} }
func ofRelation(r api.Relation) api.Graph { return api.Graph{Relations: []api.Relation{r}} }
func ofUser(u api.User) api.Graph         { return api.Graph{Users: []api.User{u}} }

// due is a way to tell an event's Due.
type due struct {
	s     string
	value int
}

// events tells each event with and without each part that may be left out, with these ways to tell its Due.
func events(dues ...due) []told {
	var l []told
	for _, d := range dues {
		for bits := range 8 {
			s, v := "event a", api.Event{Name: "a", In: true, Role: "r", Due: d.value}
			if bits&1 > 0 {
				s, v.Group = s+" in g", "g"
			}
			s += " role r"
			if bits&2 > 0 {
				s, v.In = s+" excluded", false
			}
			if bits&4 > 0 {
				s, v.Done = s+" done", true
			}
			l = append(l, told{s + d.s, ofEvent(v)})
		}
	}
	return l
}

// shortest tells statements that Print would tell so.
func shortest() []told {
	l := []told{
		{"group g", ofGroup(api.Group{Name: "g"})},
		{"group h in g", ofGroup(api.Group{Name: "h", Parent: "g"})},
		{"condition a b", ofRelation(api.Relation{Kind: 1, From: "a", To: "b"})},
		{"condition a b 1", ofRelation(api.Relation{Kind: 1, From: "a", To: "b", Time: 1})},
		{"condition a b 65536", ofRelation(api.Relation{Kind: 1, From: "a", To: "b", Time: api.MaxAge})},
		{"response a b", ofRelation(api.Relation{Kind: 2, From: "a", To: "b", Time: api.Never})},
		{"response a b 0", ofRelation(api.Relation{Kind: 2, From: "a", To: "b"})},
		{"response a b 7", ofRelation(api.Relation{Kind: 2, From: "a", To: "b", Time: 7})},
		{"response a b 1048575", ofRelation(api.Relation{Kind: 2, From: "a", To: "b", Time: api.Never - 1})},
		{"include a b", ofRelation(api.Relation{Kind: 3, From: "a", To: "b"})},
		{"exclude b a", ofRelation(api.Relation{Kind: 4, From: "b", To: "a"})},
		{"milestone a a", ofRelation(api.Relation{Kind: 5, From: "a", To: "a"})},
		{"user u roles", ofUser(api.User{Name: "u"})},
		{"user u roles r", ofUser(api.User{Name: "u", Roles: []string{"r"}})},
		{"user u roles s r q", ofUser(api.User{Name: "u", Roles: []string{"s", "r", "q"}})},
		{"user u roles sub v", ofUser(api.User{Name: "u", Sub: "v"})},
		{"user u roles r sub v", ofUser(api.User{Name: "u", Roles: []string{"r"}, Sub: "v"})},
		{"user u roles r q sub v", ofUser(api.User{Name: "u", Roles: []string{"r", "q"}, Sub: "v"})},
		{"user a roles b c d e f g h k sub l", ofUser(api.User{Name: "a", Roles: strings.Fields("b c d e f g h k"), Sub: "l"})},
	}
	return append(l, events(due{"", -1}, due{" pending", api.Never}, due{" due 0", 0}, due{" due 7", 7}, due{" due 1048575", api.Never - 1})...)
}

// longer tells statements that Print would tell by less.
func longer() []told {
	l := []told{
		{"condition a b 0", ofRelation(api.Relation{Kind: 1, From: "a", To: "b"})},
		{"response a b 1048576", ofRelation(api.Relation{Kind: 2, From: "a", To: "b", Time: api.Never})},
	}
	return append(l, events(due{" due 1048576", api.Never})...)
}

// unchecked tells statements of graphs that may not be.
func unchecked() []told {
	return []told{
		{"group g in g", ofGroup(api.Group{Name: "g", Parent: "g"})},
		{"event g in g role g", ofEvent(api.Event{Name: "g", Group: "g", Role: "g", In: true, Due: -1})},
		{"condition a b 65537", ofRelation(api.Relation{Kind: 1, From: "a", To: "b", Time: api.MaxAge + 1})},
		{"user u roles r r sub u", ofUser(api.User{Name: "u", Roles: []string{"r", "r"}, Sub: "u"})},
		{"user u roles a b c d e f g h k", ofUser(api.User{Name: "u", Roles: strings.Fields("a b c d e f g h k")})},
	}
}

// tokensOf tells the tokens of words; where they begin has nothing to do with how many there are.
func tokensOf(words []string) []lex.Token {
	var l []lex.Token
	for i, w := range words {
		t := lex.Token{Kind: lex.Word, Text: w, At: 1000 - 7*i}
		if n, err := strconv.Atoi(w); err == nil {
			t.Kind, t.Value = lex.Number, n
		}
		if w == ";" {
			t.Kind = lex.Sign
		}
		l = append(l, t)
	}
	return l
}

func tokens(s string) []lex.Token { return tokensOf(strings.Fields(s)) }

// states fails unless Statement tells this graph of these tokens.
func states(t *testing.T, what string, l []lex.Token, want api.Graph) {
	t.Helper()
	was := slices.Clone(l)
	if g, at, e := text.Statement(l); !graph.Same(g, want) || at != 0 || e != api.OK {
		t.Errorf("%.80s: %v, %d, %d, not %v", what, g, at, e, want)
	}
	if !slices.Equal(l, was) {
		t.Errorf("%.80s: the tokens are changed", what)
	}
}

// refuses fails unless Statement tells ErrForm of these tokens, and this one as wrong.
func refuses(t *testing.T, what string, l []lex.Token, want int) {
	t.Helper()
	was := slices.Clone(l)
	if g, at, e := text.Statement(l); !reflect.DeepEqual(g, api.Graph{}) || at != want || e != api.ErrForm {
		t.Errorf("%.80s: %v, %d, %d, not %d", what, g, at, e, want)
	}
	if !slices.Equal(l, was) {
		t.Errorf("%.80s: the tokens are changed", what)
	}
}

// P3.2: each form, with and without each part that may be left out; the graph isn't checked.
func TestStatement(t *testing.T) {
	for _, c := range slices.Concat(shortest(), longer(), unchecked()) {
		states(t, c.s, tokens(c.s), c.g)
	}
}

// P3.2: words like those of the forms, and others, are names.
func TestStatementNames(t *testing.T) {
	for _, s := range []string{"a", "groups", "group1", "in_", "sub0", "dues", "roles_", "word", "number", "graph", "relation", "after", strings.Repeat("x", 20)} {
		states(t, s, tokens("group "+s+" in "+s), ofGroup(api.Group{Name: s, Parent: s}))
		states(t, s, tokens("event "+s+" in "+s+" role "+s), ofEvent(api.Event{Name: s, Group: s, Role: s, In: true, Due: -1}))
		states(t, s, tokens("milestone "+s+" "+s), ofRelation(api.Relation{Kind: 5, From: s, To: s}))
		states(t, s, tokens("user "+s+" roles "+s+" sub "+s), ofUser(api.User{Name: s, Roles: []string{s}, Sub: s}))
	}
}

// P3.2: a token is what its Kind says, whatever its text is.
func TestStatementKinds(t *testing.T) {
	word := func(s string) lex.Token { return lex.Token{Kind: lex.Word, Text: s, Value: 9} }
	number := func(s string, value int) lex.Token { return lex.Token{Kind: lex.Number, Text: s, Value: value} }
	start := func(s string, more ...lex.Token) []lex.Token { return append(tokens(s), more...) }
	for _, s := range []string{"7", "", ";", "A", " ", "NAME", "007", "\xff", strings.Repeat("x", 21), "a b"} {
		states(t, "group "+s, start("group", word(s)), ofGroup(api.Group{Name: s}))
		states(t, "group g in "+s, start("group g in", word(s)), ofGroup(api.Group{Name: "g", Parent: s}))
		states(t, "event a role "+s, start("event a role", word(s)), ofEvent(api.Event{Name: "a", Role: s, In: true, Due: -1}))
		states(t, "include a "+s, start("include a", word(s)), ofRelation(api.Relation{Kind: 3, From: "a", To: s}))
		states(t, "user u roles "+s, start("user u roles", word(s)), ofUser(api.User{Name: "u", Roles: []string{s}}))
		refuses(t, s, start("", word(s)), 0)
		refuses(t, "due "+s, start("event a role r due", word(s)), 5)
		refuses(t, "condition a b "+s, start("condition a b", word(s)), 3)
	}
	for _, s := range []string{"x", "", ";", "excluded", "group", "12", "pending", "-1"} {
		for _, n := range []int{0, 5, -1, -7, api.MaxAge, api.Never, api.Never + 1, 1 << 62} {
			states(t, "due", start("event a role r due", number(s, n)), ofEvent(api.Event{Name: "a", Role: "r", In: true, Due: n}))
			states(t, "condition", start("condition a b", number(s, n)), ofRelation(api.Relation{Kind: 1, From: "a", To: "b", Time: n}))
			states(t, "response", start("response a b", number(s, n)), ofRelation(api.Relation{Kind: 2, From: "a", To: "b", Time: n}))
		}
		refuses(t, s, start("group", number(s, 0)), 1)
		refuses(t, s, start("user u roles", number(s, 0)), 3)
	}
	refuses(t, "a number group", []lex.Token{number("group", 0), word("g")}, 0)
	refuses(t, "a number in", []lex.Token{word("group"), word("g"), number("in", 0), word("h")}, 2)
	refuses(t, "a number role", []lex.Token{word("event"), word("a"), number("role", 0), word("r")}, 2)
	refuses(t, "a number done", start("event a role r", number("done", 0)), 4)
	refuses(t, "a number pending", start("event a role r", number("pending", 0)), 4)
	refuses(t, "a number sub", start("user u roles r", number("sub", 0), word("v")), 4)
	for _, kind := range []int{lex.Sign, 0, -1, 4} {
		refuses(t, "another kind, first", []lex.Token{{Kind: kind, Text: "group"}, word("g")}, 0)
		refuses(t, "another kind of name", start("group", lex.Token{Kind: kind, Text: "g"}), 1)
		refuses(t, "another kind of number", start("condition a b", lex.Token{Kind: kind, Text: "7", Value: 7}), 3)
		refuses(t, "another kind, last", start("group g", lex.Token{Kind: kind, Text: ";"}), 2)
	}
}

// broken is a statement of no form, and which token is wrong.
type broken struct {
	s  string
	at int
}

// brokens tells each form, broken at each of its tokens, and with its last one missing.
func brokens() []broken {
	return []broken{
		{"", 0}, {"a", 0}, {"7", 0}, {"groups g", 0}, {"in g", 0}, {"role r", 0}, {"excluded", 0}, {"done", 0}, {"pending", 0}, {"due 7", 0}, {"roles r", 0}, {"sub v", 0}, {"a group g", 0},
		{"group", 1}, {"group 7", 1}, {"group in", 1}, {"group in g", 1}, {"group group", 1},
		{"group g g", 2}, {"group g 7", 2}, {"group g role", 2}, {"group g sub h", 2},
		{"group g in", 3}, {"group g in 7", 3}, {"group g in in", 3}, {"group g in h h", 4}, {"group g in h 7", 4}, {"group g in h in k", 4},
		{"event", 1}, {"event 7", 1}, {"event role r", 1}, {"event in g role r", 1},
		{"event a", 2}, {"event a r", 2}, {"event a 7", 2}, {"event a roles r", 2}, {"event a excluded", 2},
		{"event a in", 3}, {"event a in role r", 3}, {"event a in 7 role r", 3},
		{"event a in g", 4}, {"event a in g h role r", 4}, {"event a in g in h role r", 4}, {"event a in g excluded", 4},
		{"event a role", 3}, {"event a role 7", 3}, {"event a role role", 3}, {"event a role excluded", 3}, {"event a in g role", 5}, {"event a in g role due 7", 5},
		{"event a role r r", 4}, {"event a role r 7", 4}, {"event a role r in g", 4}, {"event a role r role r", 4}, {"event a role r sub", 4},
		{"event a role r excluded excluded", 5}, {"event a role r excluded 7", 5}, {"event a role r excluded a", 5},
		{"event a role r done excluded", 5}, {"event a role r done done", 5}, {"event a role r done 7", 5},
		{"event a role r pending excluded", 5}, {"event a role r pending done", 5}, {"event a role r pending pending", 5}, {"event a role r pending due 7", 5}, {"event a role r pending 7", 5},
		{"event a role r due", 5}, {"event a role r due a", 5}, {"event a role r due pending", 5}, {"event a role r due due", 5},
		{"event a role r due 7 7", 6}, {"event a role r due 7 pending", 6}, {"event a role r due 7 done", 6}, {"event a role r due 7 due 7", 6},
		{"event a in g role r excluded done due", 9}, {"event a in g role r excluded done due 7 a", 10}, {"event a in g role r excluded done pending a", 9},
		{"condition", 1}, {"condition 7", 1}, {"condition condition a b", 1}, {"condition a", 2}, {"condition a 7", 2}, {"condition a in", 2}, {"condition a b c", 3}, {"condition a b in", 3}, {"condition a b 7 7", 4}, {"condition a b 7 c", 4},
		{"response", 1}, {"response 7", 1}, {"response due a", 1}, {"response a", 2}, {"response a 7", 2}, {"response a due", 2}, {"response a b c", 3}, {"response a b due 7", 3}, {"response a b 7 7", 4}, {"response a b 7 c", 4},
		{"include", 1}, {"include 7 a", 1}, {"include a", 2}, {"include a 7", 2}, {"include a b 0", 3}, {"include a b 7", 3}, {"include a b c", 3},
		{"exclude", 1}, {"exclude excluded a", 1}, {"exclude a", 2}, {"exclude a sub", 2}, {"exclude a b 0", 3}, {"exclude a b exclude", 3},
		{"milestone", 1}, {"milestone 0 0", 1}, {"milestone a", 2}, {"milestone a milestone", 2}, {"milestone a b 0", 3}, {"milestone a b c d", 3},
		{"user", 1}, {"user 7", 1}, {"user roles r", 1}, {"user u", 2}, {"user u r", 2}, {"user u role r", 2}, {"user u sub v", 2}, {"user u 7", 2},
		{"user u roles 7", 3}, {"user u roles roles", 3}, {"user u roles in", 3}, {"user u roles r 7", 4}, {"user u roles r role", 4}, {"user u roles r q excluded", 5},
		{"user u roles sub", 4}, {"user u roles sub 7", 4}, {"user u roles sub sub", 4}, {"user u roles r sub", 5}, {"user u roles r sub 7", 5}, {"user u roles r sub roles", 5},
		{"user u roles sub v w", 5}, {"user u roles sub v 7", 5}, {"user u roles r sub v sub w", 6}, {"user u roles r sub v roles", 6},
	}
}

// P3.2: which token is wrong, or how many there are, if one is missing.
func TestStatementBroken(t *testing.T) {
	refuses(t, "none", nil, 0)
	refuses(t, "an empty list", []lex.Token{}, 0)
	for _, c := range brokens() {
		refuses(t, c.s, tokens(c.s), c.at)
	}
}

// P3.2: a sign is part of no form.
func TestStatementSigns(t *testing.T) {
	for _, c := range shortest() {
		words := strings.Fields(c.s)
		for at := range len(words) + 1 {
			refuses(t, c.s, tokensOf(slices.Insert(slices.Clone(words), at, ";")), at)
		}
	}
}

// P3.2: the words of the forms are no names, wherever one is asked.
func TestStatementNoNames(t *testing.T) {
	for _, w := range strings.Fields(formWords) {
		for _, s := range []string{"group", "group g in", "event", "event a in", "event a role", "event a in g role", "condition", "condition a", "response", "response a", "include", "include a", "exclude", "exclude a", "milestone", "milestone a", "user", "user u roles sub", "user u roles r sub"} {
			refuses(t, s+" "+w, tokens(s+" "+w), len(strings.Fields(s)))
			refuses(t, s+" "+w+" ..", tokens(s+" "+w+" a role r"), len(strings.Fields(s)))
		}
		if w == "sub" {
			continue
		}
		refuses(t, "a first role "+w, tokens("user u roles "+w), 3)
		refuses(t, "a second role "+w, tokens("user u roles r "+w+" q"), 4)
	}
}

// patterns tells all forms, of up to so many roles, word by word.
func patterns(roles int) [][]string {
	var l [][]string
	tell := func(s string) { l = append(l, strings.Fields(s)) }
	for _, in := range []string{"", " in NAME"} {
		tell("group NAME" + in)
		for _, excluded := range []string{"", " excluded"} {
			for _, done := range []string{"", " done"} {
				for _, due := range []string{"", " pending", " due NUMBER"} {
					tell("event NAME" + in + " role NAME" + excluded + done + due)
				}
			}
		}
	}
	for _, kind := range strings.Fields("condition response include exclude milestone") {
		tell(kind + " NAME NAME")
	}
	tell("condition NAME NAME NUMBER")
	tell("response NAME NAME NUMBER")
	for n := range roles + 1 {
		tell("user NAME roles" + strings.Repeat(" NAME", n))
		tell("user NAME roles" + strings.Repeat(" NAME", n) + " sub NAME")
	}
	return l
}

// fits says whether a word may stand where a form has this.
func fits(word, form string) bool {
	_, err := strconv.Atoi(word)
	switch form {
	case "NAME":
		return err != nil && word != ";" && !slices.Contains(strings.Fields(formWords), word)
	case "NUMBER":
		return err == nil
	}
	return word == form
}

// wrongAt says, by holding words against all forms, which is wrong, and whether one is.
func wrongAt(words []string, forms [][]string) (int, bool) {
	furthest := 0
	for _, f := range forms {
		n := 0
		for n < min(len(words), len(f)) && fits(words[n], f[n]) {
			n++
		}
		if n == len(words) && n == len(f) {
			return 0, false
		}
		furthest = max(furthest, n)
	}
	return furthest, true
}

// P3.2: every form, with a word more, less, or another one at each place.
func TestStatementEveryChange(t *testing.T) {
	forms := patterns(5)
	others := append(strings.Fields(formWords), "b", "4", "0", ";")
	right, wrong := 0, 0
	look := func(words []string) {
		at, isWrong := wrongAt(words, forms)
		l := tokensOf(words)
		if isWrong {
			wrong++
			refuses(t, strings.Join(words, " "), l, at)
			return
		}
		right++
		if g, at, e := text.Statement(l); at != 0 || e != api.OK || len(g.Groups)+len(g.Events)+len(g.Relations)+len(g.Users) != 1 {
			t.Errorf("%v: %v, %d, %d", words, g, at, e)
		}
	}
	for _, f := range patterns(3) {
		words := strings.Fields(strings.NewReplacer("NAME", "a", "NUMBER", "5").Replace(strings.Join(f, " ")))
		look(words)
		for at := range len(words) + 1 {
			look(words[:at])
			look(words[at:])
			for _, other := range others {
				look(slices.Insert(slices.Clone(words), at, other))
			}
			if at == len(words) {
				break
			}
			look(slices.Delete(slices.Clone(words), at, at+1))
			for _, other := range others {
				look(slices.Replace(slices.Clone(words), at, at+1, other))
			}
		}
	}
	if right < 100 || wrong < 1000 {
		t.Errorf("%d right, %d wrong", right, wrong)
	}
}

// P3.2 and R1: very many tokens are taken as few are.
func TestStatementLong(t *testing.T) {
	const many = 200000
	l := tokens("user u roles")
	var roles []string
	for range many {
		l = append(l, lex.Token{Kind: lex.Word, Text: "r"})
		roles = append(roles, "r")
	}
	states(t, "many roles", l, ofUser(api.User{Name: "u", Roles: roles}))
	refuses(t, "many roles and a number", append(slices.Clone(l), tokens("7")...), len(l))
	refuses(t, "many more than a group has", append(tokens("group g"), l...), 2)
}

// R3: what is answered is the caller's own.
func TestStatementSharesNothing(t *testing.T) {
	l := tokens("user u roles r q sub v")
	l = slices.Grow(l, 9)
	g, _, _ := text.Statement(l)
	again, _, _ := text.Statement(l)
	g.Users[0].Roles[0], g.Users[0].Name = "x", "x"
	_ = append(g.Users[0].Roles, "x")
	want := ofUser(api.User{Name: "u", Roles: []string{"r", "q"}, Sub: "v"})
	if !graph.Same(again, want) || !slices.Equal(l, tokens("user u roles r q sub v")) {
		t.Errorf("%v, %v", again, l)
	}
	clear(l)
	if !graph.Same(again, want) {
		t.Errorf("%v", again)
	}
}
