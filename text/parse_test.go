package text_test

import (
	"math/rand"
	"reflect"
	"strconv"
	"strings"
	"testing"

	"replevin/api"
	"replevin/graph"
	"replevin/text"
)

// parses fails unless Parse tells this graph.
func parses(t *testing.T, s string, want api.Graph) {
	t.Helper()
	if g, at, e := text.Parse(s); !graph.Same(g, want) || at != 0 || e != api.OK {
		t.Errorf("%.200q: %v, %d, %d, not %v", s, g, at, e, want)
	}
}

// faults fails unless Parse tells this error at this place, and nothing else.
func faults(t *testing.T, s string, want int, wantError api.Errno) {
	t.Helper()
	if g, at, e := text.Parse(s); !reflect.DeepEqual(g, api.Graph{}) || at != want || e != wantError {
		t.Errorf("%.200q: %v, %d, %d, not %d, %d", s, g, at, e, want, wantError)
	}
}

const sampleText = `group g;
group h in g;
group k in h;
event a role r;
event b in k role q excluded due 3;
event c in g role r done pending;
event d role s excluded done due 0;
condition a b 7;
condition b a;
response b g 9;
response a g;
response a h 0;
include g h;
exclude h a;
milestone a a;
user u roles r z sub v;
user v roles sub w;
user w roles q;
user a roles;
`

// sample tells the graph of the sample's text, anew each time.
func sample() api.Graph {
	return api.Graph{
		Groups: []api.Group{{Name: "g"}, {Name: "h", Parent: "g"}, {Name: "k", Parent: "h"}},
		Events: []api.Event{
			{Name: "a", Role: "r", In: true, Due: -1},
			{Name: "b", Group: "k", Role: "q", Due: 3},
			{Name: "c", Group: "g", Role: "r", In: true, Done: true, Due: api.Never},
			{Name: "d", Role: "s", Done: true, Due: 0},
		},
		Relations: []api.Relation{
			{Kind: api.Condition, From: "a", To: "b", Time: 7},
			{Kind: api.Condition, From: "b", To: "a"},
			{Kind: api.Response, From: "b", To: "g", Time: 9},
			{Kind: api.Response, From: "a", To: "g", Time: api.Never},
			{Kind: api.Response, From: "a", To: "h"},
			{Kind: api.Include, From: "g", To: "h"},
			{Kind: api.Exclude, From: "h", To: "a"},
			{Kind: api.Milestone, From: "a", To: "a"},
		},
		Users: []api.User{
			{Name: "u", Roles: []string{"r", "z"}, Sub: "v"},
			{Name: "v", Sub: "w"},
			{Name: "w", Roles: []string{"q"}},
			{Name: "a"},
		},
	}
}

// P3.3: texts of graphs that may be.
func TestParse(t *testing.T) {
	for _, s := range []string{"", " ", "\n", " \n\n "} {
		parses(t, s, api.Graph{})
	}
	for _, s := range []string{
		sampleText,
		strings.ReplaceAll(sampleText, "\n", ""),
		strings.ReplaceAll(sampleText, " ", "\n\n  "),
		" \n" + strings.ReplaceAll(sampleText, ";", "  ;  "),
	} {
		parses(t, s, sample())
	}
	parses(t, "group g;", ofGroup(api.Group{Name: "g"}))
	parses(t, "event a role r;", ofEvent(api.Event{Name: "a", Role: "r", In: true, Due: -1}))
	parses(t, "user u roles;", ofUser(api.User{Name: "u"}))
}

// P3.3: every form, among statements that it needs.
func TestParseForms(t *testing.T) {
	for _, c := range append(shortest(), longer()...) {
		g, ahead, behind := completed(c.g)
		parses(t, ahead+c.s+";"+behind, g)
	}
}

// P3.3: statements of different parts stand in any order, those of one part in the graph's.
func TestParseAnyOrder(t *testing.T) {
	r := rand.New(rand.NewSource(3))
	statements := strings.SplitAfter(strings.TrimSpace(sampleText), "\n")
	for range 2000 {
		parses(t, strings.Join(mixed(r, statements), " "), sample())
	}
	g := sample()
	g.Groups[0], g.Groups[1] = api.Group{Name: "x"}, api.Group{Name: "g"}
	parses(t, "group x; group g;", api.Graph{Groups: g.Groups[:2]})
	parses(t, "group g; group x;", api.Graph{Groups: []api.Group{{Name: "g"}, {Name: "x"}}})
}

// mixed tells statements in another order, in which those of one part stay in theirs.
func mixed(r *rand.Rand, statements []string) []string {
	var lists [5][]string
	var order []int
	for _, s := range statements {
		part := 3
		switch strings.Fields(s)[0] {
		case "group":
			part = 1
		case "event":
			part = 2
		case "user":
			part = 4
		}
		lists[part] = append(lists[part], s)
		order = append(order, part)
	}
	r.Shuffle(len(order), func(i, j int) { order[i], order[j] = order[j], order[i] })
	var l []string
	for _, part := range order {
		l = append(l, lists[part][0])
		lists[part] = lists[part][1:]
	}
	return l
}

// P3.3: lex.Lex's errors and places, ahead of all others.
func TestParseLexErrors(t *testing.T) {
	full := strings.Repeat("group g;", 1666)
	for _, c := range []struct {
		s  string
		at int
		e  api.Errno
	}{
		{"A", 0, api.ErrForm},
		{"group G;", 6, api.ErrForm},
		{"group g; group h,", 16, api.ErrForm},
		{"group g;\tgroup h;", 8, api.ErrForm},
		{"condition a b 01;", 14, api.ErrForm},
		{"condition a b -1;", 14, api.ErrForm},
		{"response a b 1048577;", 13, api.ErrForm},
		{"group 7g;", 6, api.ErrForm},
		{"group " + strings.Repeat("g", 21) + ";", 6, api.ErrForm},
		{"7; group g; A", 12, api.ErrForm},
		{"; _", 2, api.ErrForm},
		{"group g A", 8, api.ErrForm},
		{"group g; group g; 00;", 18, api.ErrForm},
		{full + ";;;", len(full) + 2, api.ErrMany},
		{full + "7;7;", len(full) + 2, api.ErrMany},
		{full + " a b c;", len(full) + 5, api.ErrMany},
		{strings.Repeat(";", 5001), 5000, api.ErrMany},
		{strings.Repeat("a ", 5001), 10000, api.ErrMany},
		{strings.Repeat("a ", 100000), 10000, api.ErrMany},
	} {
		faults(t, c.s, c.at, c.e)
	}
}

// P3.3: lex.Statements' error and place, ahead of what is wrong in a statement.
func TestParseStatementsErrors(t *testing.T) {
	for s, at := range map[string]int{
		"a":                                  0,
		"  group g":                          2,
		"group g; group h":                   9,
		"group g;\n\n event a role r done":   11,
		"7; group h":                         3,
		";;; 7":                              4,
		"group g; group g; x":                18,
		"group g in h; x":                    14,
		strings.Repeat("group g;", 41) + "x": 8 * 41,
	} {
		faults(t, s, at, api.ErrForm)
	}
}

// P3.3: of a statement of no form the place where the wrong token begins, or where the `;` stands.
func TestParseBroken(t *testing.T) {
	for _, c := range brokens() {
		words := strings.Fields(c.s)
		place := 0
		var s strings.Builder
		for i, w := range append(words, ";") {
			s.WriteString(strings.Repeat(" ", i%3+1))
			if i == c.at {
				place = s.Len()
			}
			s.WriteString(w)
		}
		faults(t, s.String(), place, api.ErrForm)
		faults(t, s.String()+"group g;", place, api.ErrForm)
		faults(t, "group g;\n"+s.String()+"\ngroup h;", 9+place, api.ErrForm)
		faults(t, sampleText+s.String()+sampleText, len(sampleText)+place, api.ErrForm)
		// The first of two is told, and either ahead of what graph.Check would tell.
		faults(t, s.String()+" 7 7 ;", place, api.ErrForm)
		faults(t, "group g; group g; "+s.String(), 18+place, api.ErrForm)
		faults(t, strings.Repeat("group g;", 41)+s.String(), 8*41+place, api.ErrForm)
	}
	for s, at := range map[string]int{
		";":                    0,
		"\n ;":                 2,
		"group g;;":            8,
		"group g; ;":           9,
		";group g;":            0,
		"group g;;;":           8,
		"group g  ;\n; group;": 11,
		"group\n\n;":           7,
		"group  g  h ;":        10,
		"group g in\n;":        11,
	} {
		faults(t, s, at, api.ErrForm)
	}
}

// P3.3: the words of the forms are no names.
func TestParseNoNames(t *testing.T) {
	for _, w := range strings.Fields(formWords) {
		faults(t, "group "+w+";", 6, api.ErrForm)
		faults(t, "group g; event a in g role "+w+";", 27, api.ErrForm)
		faults(t, "event a role r; milestone a "+w+";", 28, api.ErrForm)
		faults(t, "user "+w+" roles;", 5, api.ErrForm)
		faults(t, "user u roles sub "+w+";", 17, api.ErrForm)
	}
}

// flaw is a statement that makes of the sample a graph that may not be.
type flaw struct {
	s string
	e api.Errno
}

func flaws() []flaw {
	return []flaw{
		{"group h;", api.ErrTwice},
		{"group x in x;", api.ErrNone},
		{"group x in a;", api.ErrNone},
		{"group g in x;", api.ErrTwice},
		{"event a role r;", api.ErrTwice},
		{"event h role r;", api.ErrTwice},
		{"event x in a role r;", api.ErrNone},
		{"event x in y role r excluded done due 4;", api.ErrNone},
		{"condition x a;", api.ErrNone},
		{"response a u;", api.ErrNone},
		{"condition c c 65537;", api.ErrRange},
		{"condition a b;", api.ErrTwice},
		{"response b g;", api.ErrTwice},
		{"milestone a a;", api.ErrTwice},
		{"user w roles;", api.ErrTwice},
		{"user x roles r r;", api.ErrTwice},
		{"user x roles r sub b;", api.ErrNone},
		{"user x roles sub x;", api.ErrRing},
	}
}

// P3.3: graph.Check's error, and where the statement begins of what is wrong.
func TestParseChecked(t *testing.T) {
	r := rand.New(rand.NewSource(4))
	statements := strings.SplitAfter(strings.TrimSpace(sampleText), "\n")
	for _, f := range flaws() {
		faults(t, sampleText+f.s, len(sampleText), f.e)
		faults(t, sampleText+" \n "+f.s+"\n ", len(sampleText)+3, f.e)
		for range 100 {
			// The flaw is the last one of its part, and stands anywhere.
			s := strings.Join(mixed(r, append(statements[:len(statements):len(statements)], " "+f.s)), "\n ")
			faults(t, s, strings.Index(s, "  "+f.s)+2, f.e)
		}
	}
	for _, c := range []struct {
		s  string
		at int
		e  api.Errno
	}{
		{"group g in h; group h;", 0, api.ErrNone},
		{" group g in g;", 1, api.ErrNone},
		{"group g; group h in k; group k;", 9, api.ErrNone},
		{"user u roles sub u; event a role r;", 0, api.ErrRing},
		{"user u roles sub v; user v roles sub w; user w roles sub v;", 20, api.ErrRing},
		{"user u roles sub v; group g; user v roles sub u;", 0, api.ErrRing},
		{"condition a a; group g;", 0, api.ErrNone},
		{"exclude a a; include b a; event a role r;", 13, api.ErrNone},
		{"event a role r due 1048576; condition a a 65537;", 28, api.ErrRange},
	} {
		faults(t, c.s, c.at, c.e)
	}
}

// P3.3: of several flaws the one that graph.Check tells, not the one that stands first.
func TestParseFirstWrong(t *testing.T) {
	l := flaws()
	for i, a := range l {
		for _, b := range l[i+1:] {
			part := func(f flaw) string {
				w := strings.Fields(f.s)[0]
				if w == "condition" || w == "response" || w == "milestone" {
					return "relation"
				}
				return w
			}
			if part(a) == part(b) {
				faults(t, sampleText+b.s+a.s, len(sampleText), b.e)
				faults(t, sampleText+a.s+b.s, len(sampleText), a.e)
				continue
			}
			// Flaws are in the parts' order: the earlier one's part is looked at first.
			faults(t, sampleText+a.s+b.s, len(sampleText), a.e)
			faults(t, sampleText+b.s+a.s, len(sampleText)+len(b.s), a.e)
		}
	}
}

// repeated tells so many statements, of which each has its number for each `#`.
func repeated(n int, s string) string {
	var b strings.Builder
	for i := range n {
		b.WriteString(strings.ReplaceAll(s, "#", strconv.Itoa(i)))
	}
	return b.String()
}

// P3.3: of limits the place is 0.
func TestParseLimits(t *testing.T) {
	const a = "event a role r;"
	within := map[string]string{
		"groups":    repeated(40, "group g#;"),
		"events":    repeated(80, "event e# role r;"),
		"relations": repeated(60, "event e# role r; condition e# e0; response e# e0; include e# e0; exclude e# e0; milestone e# e0;"),
		"users":     repeated(40, "user u# roles;"),
		"roles":     "user u roles" + repeated(8, " r#") + ";",
	}
	more := map[string]string{
		"groups":    "group g;",
		"events":    a,
		"relations": "include e0 e1;",
		"users":     "user u roles;",
		"roles":     "user v roles" + repeated(9, " r#") + ";",
	}
	for what, s := range within {
		if _, at, e := text.Parse(s); at != 0 || e != api.OK {
			t.Errorf("%s: %d, %d", what, at, e)
		}
		for _, over := range []string{s + more[what], " \n" + s + more[what], s + more[what] + "group g in g;", "group g in g;" + s + more[what]} {
			faults(t, over, 0, api.ErrMany)
		}
	}
	faults(t, a+a+repeated(41, "group g#;"), 0, api.ErrMany)
	faults(t, "condition a a 65537;"+repeated(41, "user u# roles;"), 0, api.ErrMany)
}

// R3 and R5: what is answered is the caller's own.
func TestParseSharesNothing(t *testing.T) {
	g, _, _ := text.Parse(sampleText)
	h, _, _ := text.Parse(sampleText)
	clear(g.Groups)
	clear(g.Events)
	clear(g.Relations)
	for _, u := range g.Users {
		clear(u.Roles)
		_ = append(u.Roles, "x")
	}
	clear(g.Users)
	if !graph.Same(h, sample()) {
		t.Errorf("%v", h)
	}
	for i, u := range h.Users {
		_ = append(u.Roles, "x", "y")
		if !graph.Same(h, sample()) {
			t.Errorf("user %d: %v", i, h)
		}
	}
	parses(t, sampleText, sample())
}
