package flat_test

import (
	"math/rand"
	"reflect"
	"slices"
	"strconv"
	"strings"
	"testing"

	"replevin/api"
	"replevin/flat"
	"replevin/graph"
	"replevin/text"
)

// five tells five events, 0 to 4: those in g are 1 2 3 4, in h 2 4, in k 2; in none, and in no, there is none.
const five = "group g; group h in g; group k in h; group none; group no in none;" +
	"event a role r; event b in g role r pending; event c in k role q excluded done due 3;" +
	"event d in g role r; event e in h role r done;"

// read tells a text's graph.
func read(t *testing.T, s string) api.Graph {
	t.Helper()
	g, at, e := text.Parse(s)
	if e != api.OK {
		t.Fatalf("%.80q: %d, %d", s, at, e)
	}
	return g
}

// made tells a graph's Flat, and fails unless it has its events, and the graph stays as it was.
func made(t *testing.T, g api.Graph) flat.Flat {
	t.Helper()
	was := graph.Clone(g)
	f, e := flat.Make(g)
	if e != api.OK || !slices.Equal(f.Events, was.Events) {
		t.Fatalf("%v: %v, %d", g, f.Events, e)
	}
	if !reflect.DeepEqual(g, was) {
		t.Fatalf("%v is changed, was %v", g, was)
	}
	return f
}

// makes fails unless Make tells these ties.
func makes(t *testing.T, g api.Graph, want []flat.Tie) {
	t.Helper()
	if f := made(t, g); !slices.Equal(f.Ties, want) {
		t.Errorf("%v:\n%v, not\n%v", g.Relations, f.Ties, want)
	}
}

// refuses fails unless Make tells this error, and nothing else.
func refuses(t *testing.T, what string, g api.Graph, want api.Errno) {
	t.Helper()
	if f, e := flat.Make(g); len(f.Events) != 0 || len(f.Ties) != 0 || e != want {
		t.Errorf("%s: %d events, %d ties, %d, not %d", what, len(f.Events), len(f.Ties), e, want)
	}
}

func condition(from, to, time int) flat.Tie { return flat.Tie{Kind: 1, From: from, To: to, Time: time} }
func response(from, to, time int) flat.Tie  { return flat.Tie{Kind: 2, From: from, To: to, Time: time} }
func include(from, to int) flat.Tie         { return flat.Tie{Kind: 3, From: from, To: to} }
func exclude(from, to int) flat.Tie         { return flat.Tie{Kind: 4, From: from, To: to} }
func milestone(from, to int) flat.Tie       { return flat.Tie{Kind: 5, From: from, To: to} }

// tied is a text of relations between the five events, and their ties.
type tied struct {
	s    string
	ties []flat.Tie
}

func makesAll(t *testing.T, l []tied) {
	t.Helper()
	for _, c := range l {
		makes(t, read(t, five+c.s), c.ties)
	}
}

// P4.1: a graph without relations has its events alone.
func TestMakeEvents(t *testing.T) {
	makes(t, api.Graph{}, nil)
	makes(t, api.Graph{Groups: []api.Group{}, Events: []api.Event{}, Relations: []api.Relation{}, Users: []api.User{}}, nil)
	makes(t, read(t, "group g; user u roles;"), nil)
	makes(t, read(t, five), nil)
	f := made(t, read(t, five+"user u roles r;"))
	if f.Events[2] != (api.Event{Name: "c", Group: "k", Role: "q", Done: true, Due: 3}) {
		t.Errorf("%v", f.Events[2])
	}
}

// P4.1: relations between events, of each kind, and of an event to itself.
func TestMakeOfEvents(t *testing.T) {
	makesAll(t, []tied{
		{"condition a b;", []flat.Tie{condition(0, 1, 0)}},
		{"condition b a 65536;", []flat.Tie{condition(1, 0, api.MaxAge)}},
		{"response a e;", []flat.Tie{response(0, 4, api.Never)}},
		{"response e a 0;", []flat.Tie{response(4, 0, 0)}},
		{"include c d;", []flat.Tie{include(2, 3)}},
		{"exclude d c;", []flat.Tie{exclude(3, 2)}},
		{"milestone c b;", []flat.Tie{milestone(2, 1)}},
		{"condition a a 7;", []flat.Tie{condition(0, 0, 7)}},
		{"response c c 7;", []flat.Tie{response(2, 2, 7)}},
		{"include b b; exclude d d; milestone e e;", []flat.Tie{include(1, 1), exclude(3, 3), milestone(4, 4)}},
	})
}

// P4.1: relations from groups, to groups, and between them.
func TestMakeOfGroups(t *testing.T) {
	makesAll(t, []tied{
		{"condition a k 3;", []flat.Tie{condition(0, 2, 3)}},
		{"condition a h 3;", []flat.Tie{condition(0, 2, 3), condition(0, 4, 3)}},
		{"condition a g 3;", []flat.Tie{condition(0, 1, 3), condition(0, 2, 3), condition(0, 3, 3), condition(0, 4, 3)}},
		{"response k a 5;", []flat.Tie{response(2, 0, 5)}},
		{"response h a 5;", []flat.Tie{response(2, 0, 5), response(4, 0, 5)}},
		{"include g a;", []flat.Tie{include(1, 0), include(2, 0), include(3, 0), include(4, 0)}},
		{"exclude h d;", []flat.Tie{exclude(2, 3), exclude(4, 3)}},
		{"milestone c h;", []flat.Tie{milestone(2, 2), milestone(2, 4)}},
		{"exclude k h;", []flat.Tie{exclude(2, 2), exclude(2, 4)}},
		{"exclude h k;", []flat.Tie{exclude(2, 2), exclude(4, 2)}},
		{"milestone h h;", []flat.Tie{milestone(2, 2), milestone(2, 4), milestone(4, 2), milestone(4, 4)}},
		{"response g h 1;", []flat.Tie{
			response(1, 2, 1), response(1, 4, 1), response(2, 2, 1), response(2, 4, 1),
			response(3, 2, 1), response(3, 4, 1), response(4, 2, 1), response(4, 4, 1),
		}},
		{"condition h g;", []flat.Tie{
			condition(2, 1, 0), condition(2, 2, 0), condition(2, 3, 0), condition(2, 4, 0),
			condition(4, 1, 0), condition(4, 2, 0), condition(4, 3, 0), condition(4, 4, 0),
		}},
	})
}

// P4.1: a group without events has no ties, on either side.
func TestMakeOfEmptyGroups(t *testing.T) {
	makesAll(t, []tied{
		{"condition none a 3;", nil},
		{"condition a none 3;", nil},
		{"response no g; response g no;", nil},
		{"include none none; exclude none no; milestone no no;", nil},
		{"exclude a none; exclude a b; exclude no a;", []flat.Tie{exclude(0, 1)}},
	})
}

// P4.1: as many groups in each other as there may be.
func TestMakeOfDeepGroups(t *testing.T) {
	s := "group g0; event a role r;"
	for i := range 39 {
		s += "group g" + strconv.Itoa(i+1) + " in g" + strconv.Itoa(i) + ";"
	}
	s += "event b in g39 role r; event c in g20 role r;"
	for i := range 40 {
		want := []flat.Tie{condition(0, 1, i), condition(0, 2, i), response(1, 0, i), response(2, 0, i)}
		if i > 20 {
			want = []flat.Tie{condition(0, 1, i), response(1, 0, i)}
		}
		n := strconv.Itoa(i)
		makes(t, read(t, s+"condition a g"+n+" "+n+"; response g"+n+" a "+n+";"), want)
	}
}

// P4.1: ties stand as their relations do, then From's events, then To's.
func TestMakeOrder(t *testing.T) {
	makesAll(t, []tied{
		{"milestone e a; exclude d c; include d b; exclude a c; response a e 1; condition e d 2; condition a b 1;", []flat.Tie{
			milestone(4, 0), exclude(3, 2), include(3, 1), exclude(0, 2), response(0, 4, 1), condition(4, 3, 2), condition(0, 1, 1),
		}},
		{"exclude h h; include a b; exclude a h;", []flat.Tie{
			exclude(2, 2), exclude(2, 4), exclude(4, 2), exclude(4, 4), include(0, 1), exclude(0, 2), exclude(0, 4),
		}},
		{"response h k 4; condition h k 3;", []flat.Tie{
			response(2, 2, 4), response(4, 2, 4), condition(2, 2, 3), condition(4, 2, 3),
		}},
	})
	// Events stand as the graph has them, not as their groups do.
	makes(t, read(t, "group g; group h; event d in h role r; event c in g role r; event b in h role r; event a in g role r; exclude g h;"), []flat.Tie{
		exclude(1, 0), exclude(1, 2), exclude(3, 0), exclude(3, 2),
	})
}

// P4.1: what several relations tell stands where it is told first, once, of the greatest Time of a condition, the least of a response.
func TestMakeToldAgain(t *testing.T) {
	makesAll(t, []tied{
		{"condition a c 3; condition a h 5;", []flat.Tie{condition(0, 2, 5), condition(0, 4, 5)}},
		{"condition a c 5; condition a h 3;", []flat.Tie{condition(0, 2, 5), condition(0, 4, 3)}},
		{"condition a h 3; condition a c 5;", []flat.Tie{condition(0, 2, 5), condition(0, 4, 3)}},
		{"condition a h 5; condition a e 3;", []flat.Tie{condition(0, 2, 5), condition(0, 4, 5)}},
		{"condition a c 4; condition a k 4;", []flat.Tie{condition(0, 2, 4)}},
		{"condition a c; condition a k 65536;", []flat.Tie{condition(0, 2, api.MaxAge)}},
		{"response a c 3; response a h 5;", []flat.Tie{response(0, 2, 3), response(0, 4, 5)}},
		{"response a c 5; response a h 3;", []flat.Tie{response(0, 2, 3), response(0, 4, 3)}},
		{"response a h 3; response a c 5;", []flat.Tie{response(0, 2, 3), response(0, 4, 3)}},
		{"response a h 5; response a e 3;", []flat.Tie{response(0, 2, 5), response(0, 4, 3)}},
		{"response a c; response a k 1048575;", []flat.Tie{response(0, 2, api.Never-1)}},
		{"response a c 0; response a k;", []flat.Tie{response(0, 2, 0)}},
		{"include a e; include a h; include a k;", []flat.Tie{include(0, 4), include(0, 2)}},
		{"exclude h a; exclude k a; exclude c a;", []flat.Tie{exclude(2, 0), exclude(4, 0)}},
		{"milestone k h; milestone h k;", []flat.Tie{milestone(2, 2), milestone(2, 4), milestone(4, 2)}},
	})
}

// P4.1: of three, the outermost Time counts, wherever it stands.
func TestMakeToldThrice(t *testing.T) {
	for _, c := range [][3]int{{1, 5, 9}, {1, 9, 5}, {5, 1, 9}, {5, 9, 1}, {9, 1, 5}, {9, 5, 1}} {
		for kind, time := range map[string]int{"condition": 9, "response": 1} {
			s := five
			for i, to := range []string{"c", "k", "h"} {
				s += kind + " b " + to + " " + strconv.Itoa(c[i]) + ";"
			}
			first := made(t, read(t, s)).Ties[0]
			if first.From != 1 || first.To != 2 || first.Time != time {
				t.Errorf("%s, %v: %v", kind, c, first)
			}
		}
	}
}

// P4.1: others may stand between what is told again; another kind, or the other way round, is another tie.
func TestMakeToldOtherwise(t *testing.T) {
	makesAll(t, []tied{
		{"condition a e 1; exclude a c; response e a 7; condition a g 2; response h a 3; condition a c 9;", []flat.Tie{
			condition(0, 4, 2), exclude(0, 2), response(4, 0, 3), condition(0, 1, 2), condition(0, 2, 9), condition(0, 3, 2), response(2, 0, 3),
		}},
		{"condition a b 5; response a b 3; include a b; exclude a b; milestone a b;", []flat.Tie{
			condition(0, 1, 5), response(0, 1, 3), include(0, 1), exclude(0, 1), milestone(0, 1),
		}},
		{"response a b 3; condition a b 5;", []flat.Tie{response(0, 1, 3), condition(0, 1, 5)}},
		{"condition a b 5; condition b a 9;", []flat.Tie{condition(0, 1, 5), condition(1, 0, 9)}},
		{"response a b 5; response b a 1;", []flat.Tie{response(0, 1, 5), response(1, 0, 1)}},
		{"condition a b 5; condition a d 9; condition c b 7;", []flat.Tie{condition(0, 1, 5), condition(0, 3, 9), condition(2, 1, 7)}},
	})
}

// eighty tells 80 events, e0 to e79, all in g, of which e40 to e79 are in h, too.
func eighty() string {
	var b strings.Builder
	b.WriteString("group g; group h in g;")
	for i := range 80 {
		in := "g"
		if i >= 40 {
			in = "h"
		}
		b.WriteString("event e" + strconv.Itoa(i) + " in " + in + " role r;")
	}
	return b.String()
}

// P4.1: 8000 ties there may be, and no more.
func TestMakeMany(t *testing.T) {
	const full = "condition g g 4; exclude h h;"
	for _, c := range []struct {
		s    string
		many int
	}{
		{"condition g g;", 6400},
		{full, 8000},
		{"exclude h h; condition g g;", 8000},
		{"response h g; milestone g h; exclude h h;", 8000},
		{"condition h g; response g h; include h h;", 8000},
	} {
		f := made(t, read(t, eighty()+c.s))
		if len(f.Ties) != c.many {
			t.Errorf("%s: %d", c.s, len(f.Ties))
		}
	}
	for _, s := range []string{
		full + "include e0 e0;",
		full + "exclude e0 e0;",
		full + "exclude e39 e40;",
		"include e0 e0;" + full,
		"condition g g; include e0 e0; exclude h h;",
		"condition g g; exclude g g;",
		"condition g g; response g g; include g g; exclude g g; milestone g g;",
		"response h g; milestone g h; exclude h h; condition e7 e7;",
	} {
		refuses(t, s, read(t, eighty()+s), api.ErrMany)
	}
}

// P4.1: what is told again counts once; it is told again even when there is no room for another one.
func TestMakeManyToldAgain(t *testing.T) {
	const full = "condition g g 4; exclude h h;"
	const again = "condition h g 5; condition g h 3; exclude e40 h; exclude h e79; condition e0 e0 9; condition e1 e2 1;"
	f := made(t, read(t, eighty()+full+again))
	if len(f.Ties) != 8000 {
		t.Fatalf("%d", len(f.Ties))
	}
	for i, tie := range f.Ties[:6400] {
		time := 4
		switch {
		case i == 0:
			time = 9
		case i >= 3200:
			time = 5
		}
		if tie != condition(i/80, i%80, time) {
			t.Fatalf("%d: %v", i, tie)
		}
	}
	for i, tie := range f.Ties[6400:] {
		if tie != exclude(40+i/40, 40+i%40) {
			t.Fatalf("%d: %v", i, tie)
		}
	}
	for _, s := range []string{
		full + again + "include e0 e0;",
		full + "include e0 e0;" + again,
		again + full + "include e0 e0;",
		again + "include e0 e0;" + full,
	} {
		refuses(t, s, read(t, eighty()+s), api.ErrMany)
	}
}

// nested tells a graph as great as may be, of which each relation tells most of the same ties again.
func nested() api.Graph {
	var g api.Graph
	for i := range 40 {
		p := api.Group{Name: "g" + strconv.Itoa(i)}
		if i > 0 {
			p.Parent = g.Groups[i-1].Name
		}
		g.Groups = append(g.Groups, p)
	}
	for i := range 80 {
		g.Events = append(g.Events, api.Event{Name: "e" + strconv.Itoa(i), Group: "g39", Role: "r", Due: -1})
	}
	for i := range 300 {
		r := api.Relation{Kind: api.Condition, From: g.Groups[i/20].Name, To: g.Groups[i%20].Name, Time: i}
		g.Relations = append(g.Relations, r)
	}
	return g
}

// P4.1 and R1: of a graph as great as may be, all that is told again is told soon.
func TestMakeOfMostToldAgain(t *testing.T) {
	var f flat.Flat
	soon(t, "Make", func() { f, _ = flat.Make(nested()) })
	if len(f.Ties) != 6400 {
		t.Fatalf("%d", len(f.Ties))
	}
	for i, tie := range f.Ties {
		if tie != condition(i/80, i%80, 299) {
			t.Fatalf("%d: %v", i, tie)
		}
	}
	g := nested()
	for i := range g.Relations {
		g.Relations[i].Kind, g.Relations[i].Time = 1+i%5, 0
	}
	refuses(t, "of all kinds", g, api.ErrMany)
}

// faults tells, for each of graph.Check's errors, turns of a graph of eighty's groups and events.
func faults() map[string]func(g *api.Graph) {
	return map[string]func(g *api.Graph){
		"many groups":          func(g *api.Graph) { g.Groups = make([]api.Group, 41) },
		"many events":          func(g *api.Graph) { g.Events = make([]api.Event, 81) },
		"very many events":     func(g *api.Graph) { g.Events = make([]api.Event, 1<<20) },
		"many relations":       func(g *api.Graph) { g.Relations = make([]api.Relation, 301) },
		"very many relations":  func(g *api.Graph) { g.Relations = make([]api.Relation, 1<<20) },
		"many users":           func(g *api.Graph) { g.Users = make([]api.User, 41) },
		"a group of no name":   func(g *api.Graph) { g.Groups[1].Name = "" },
		"a group twice":        func(g *api.Graph) { g.Groups[1].Name = "g" },
		"a group in itself":    func(g *api.Graph) { g.Groups[0].Parent = "g" },
		"an event of no name":  func(g *api.Graph) { g.Events[79].Name = "E" },
		"an event twice":       func(g *api.Graph) { g.Events[79].Name = "e0" },
		"an event as a group":  func(g *api.Graph) { g.Events[79].Name = "g" },
		"an event in none":     func(g *api.Graph) { g.Events[79].Group = "x" },
		"an event's Due":       func(g *api.Graph) { g.Events[79].Due = -2 },
		"no kind":              func(g *api.Graph) { g.Relations[0].Kind = 0 },
		"a sixth kind":         func(g *api.Graph) { g.Relations[0].Kind = 6 },
		"from none":            func(g *api.Graph) { g.Relations[0].From = "x" },
		"to none":              func(g *api.Graph) { g.Relations[0].To = "" },
		"a condition's Time":   func(g *api.Graph) { g.Relations[0].Time = api.MaxAge + 1 },
		"a Time below 0":       func(g *api.Graph) { g.Relations[0].Time = -1 },
		"a relation twice":     func(g *api.Graph) { g.Relations = append(g.Relations, g.Relations[0]) },
		"a user of no name":    func(g *api.Graph) { g.Users = []api.User{{Name: "sub"}} },
		"a user twice":         func(g *api.Graph) { g.Users = []api.User{{Name: "u"}, {Name: "u"}} },
		"nobody stands in":     func(g *api.Graph) { g.Users = []api.User{{Name: "u", Sub: "v"}} },
		"one stands in itself": func(g *api.Graph) { g.Users = []api.User{{Name: "u", Sub: "u"}} },
	}
}

// P4.1: graph.Check's error, ahead of ErrMany.
func TestMakeChecked(t *testing.T) {
	told := map[api.Errno]int{}
	for _, s := range []string{"condition e0 e1 3;", "condition g g; exclude g g;"} {
		for what, turn := range faults() {
			g := read(t, eighty()+s)
			turn(&g)
			was := graph.Clone(g)
			_, e := graph.Check(g)
			if e == api.OK {
				t.Errorf("%s: the graph may be", what)
			}
			told[e]++
			refuses(t, what, g, e)
			if !graph.Same(g, was) {
				t.Errorf("%s: changed", what)
			}
		}
	}
	if len(told) != 7 {
		t.Errorf("%v", told)
	}
}

// slowMembers tells the events of a name, by following for each event the groups in which it lies.
func slowMembers(g api.Graph, name string) []int {
	parents := map[string]api.Group{}
	for _, p := range g.Groups {
		parents[p.Name] = p
	}
	var l []int
	for i, v := range g.Events {
		names := []string{v.Name}
		for at := v.Group; at != ""; at = parents[at].Parent {
			names = append(names, at)
		}
		if slices.Contains(names, name) {
			l = append(l, i)
		}
	}
	return l
}

// slowTies tells the ties of a graph: all first, then for each place whether it is the first of its like, and the outermost Time.
func slowTies(g api.Graph) []flat.Tie {
	var all []flat.Tie
	for _, r := range g.Relations {
		for _, from := range slowMembers(g, r.From) {
			for _, to := range slowMembers(g, r.To) {
				all = append(all, flat.Tie{Kind: r.Kind, From: from, To: to, Time: r.Time})
			}
		}
	}
	var l []flat.Tie
	for i, a := range all {
		like := func(b flat.Tie) bool { return a.Kind == b.Kind && a.From == b.From && a.To == b.To }
		if slices.ContainsFunc(all[:i], like) {
			continue
		}
		for _, b := range all[i:] {
			if like(b) && (a.Kind == api.Condition && b.Time > a.Time || a.Kind == api.Response && b.Time < a.Time) {
				a.Time = b.Time
			}
		}
		l = append(l, a)
	}
	return l
}

// chance tells a small graph that may be, of groups in groups.
func chance(r *rand.Rand) api.Graph {
	var g api.Graph
	var names []string
	for i := range r.Intn(5) {
		p := api.Group{Name: "g" + strconv.Itoa(i)}
		if i > 0 && r.Intn(3) > 0 {
			p.Parent = g.Groups[r.Intn(i)].Name
		}
		g.Groups = append(g.Groups, p)
		names = append(names, p.Name, p.Name)
	}
	for i := range 1 + r.Intn(6) {
		v := api.Event{Name: "e" + strconv.Itoa(i), Role: "r", In: r.Intn(2) > 0, Done: r.Intn(2) > 0, Due: r.Intn(4) - 1}
		if len(g.Groups) > 0 && r.Intn(4) > 0 {
			v.Group = g.Groups[r.Intn(len(g.Groups))].Name
		}
		g.Events = append(g.Events, v)
		names = append(names, v.Name)
	}
	told := map[api.Relation]int{}
	for range r.Intn(12) {
		q := api.Relation{Kind: 1 + r.Intn(5), From: names[r.Intn(len(names))], To: names[r.Intn(len(names))]}
		if told[q]++; told[q] > 1 {
			continue
		}
		if q.Kind <= api.Response {
			q.Time = r.Intn(5)
		}
		g.Relations = append(g.Relations, q)
	}
	return g
}

// P4.1, of very many small graphs.
func TestMakeOfManySmallGraphs(t *testing.T) {
	r := rand.New(rand.NewSource(11))
	for range 3000 {
		g := chance(r)
		makes(t, g, slowTies(g))
	}
}

func BenchmarkMake(b *testing.B) {
	g := nested()
	for b.Loop() {
		flat.Make(g)
	}
}
