package text_test

import (
	"math/rand"
	"reflect"
	"slices"
	"strconv"
	"strings"
	"testing"

	"replevin/api"
	"replevin/graph"
	"replevin/text"
)

// prints fails unless Print tells this text, and leaves the graph as it was.
func prints(t *testing.T, g api.Graph, want string) {
	t.Helper()
	was := graph.Clone(g)
	if s, e := text.Print(g); s != want || e != api.OK {
		t.Errorf("%v: %q, %d, not %q", g, s, e, want)
	}
	if !reflect.DeepEqual(g, was) {
		t.Errorf("%v is changed, was %v", g, was)
	}
}

// P3.1: texts of graphs.
func TestPrint(t *testing.T) {
	prints(t, api.Graph{}, "")
	prints(t, api.Graph{Groups: []api.Group{}, Events: []api.Event{}, Relations: []api.Relation{}, Users: []api.User{}}, "")
	prints(t, sample(), sampleText)
	prints(t, ofGroup(api.Group{Name: "g"}), "group g;\n")
	prints(t, ofUser(api.User{Name: "u", Roles: []string{}}), "user u roles;\n")
}

// completed tells a graph with what it needs, so that it may be, and what of its text is ahead of and behind its own.
func completed(g api.Graph) (c api.Graph, ahead, behind string) {
	c = graph.Clone(g)
	switch {
	case len(g.Groups) > 0 && g.Groups[0].Parent != "", len(g.Events) > 0 && g.Events[0].Group != "":
		c.Groups = append([]api.Group{{Name: "g"}}, c.Groups...)
		ahead = "group g;\n"
	case len(g.Relations) > 0:
		c.Events = []api.Event{{Name: "a", Role: "r", In: true, Due: -1}, {Name: "b", Role: "r", In: true, Due: -1}}
		ahead = "event a role r;\nevent b role r;\n"
	case len(g.Users) > 0 && g.Users[0].Sub != "":
		c.Users = append(c.Users, api.User{Name: g.Users[0].Sub})
		behind = "user " + g.Users[0].Sub + " roles;\n"
	}
	return c, ahead, behind
}

// P3.1: each statement, with and without each part that may be left out.
func TestPrintForms(t *testing.T) {
	for _, c := range shortest() {
		g, ahead, behind := completed(c.g)
		prints(t, g, ahead+c.s+";\n"+behind)
	}
}

// P3.1: what may be left out is, where that tells the same.
func TestPrintShortest(t *testing.T) {
	for _, c := range longer() {
		g, ahead, _ := completed(c.g)
		at := slices.IndexFunc(shortest(), func(s told) bool { return graph.Same(s.g, c.g) })
		prints(t, g, ahead+shortest()[at].s+";\n")
	}
	for s, want := range map[string]string{
		"event a role r due 1048576;":                         "event a role r pending;\n",
		"event a role r due 1048575;":                         "event a role r due 1048575;\n",
		"event a role r due 0;":                               "event a role r due 0;\n",
		"event a role r; condition a a 0;":                    "event a role r;\ncondition a a;\n",
		"event a role r; condition a a 1;":                    "event a role r;\ncondition a a 1;\n",
		"event a role r; condition a a 65536;":                "event a role r;\ncondition a a 65536;\n",
		"event a role r; response a a 1048576;":               "event a role r;\nresponse a a;\n",
		"event a role r; response a a 0;":                     "event a role r;\nresponse a a 0;\n",
		"event a role r; response a a 65536;":                 "event a role r;\nresponse a a 65536;\n",
		"user u roles sub v; event a role r; user v roles r;": "event a role r;\nuser u roles sub v;\nuser v roles r;\n",
	} {
		g, _, e := text.Parse(s)
		if e != api.OK {
			t.Errorf("%s: %d", s, e)
		}
		prints(t, g, want)
	}
}

// P3.1: of a graph that may not be, graph.Check's error alone.
func TestPrintChecked(t *testing.T) {
	for _, c := range []struct {
		what string
		turn func(g *api.Graph)
		e    api.Errno
	}{
		{"many groups", func(g *api.Graph) { g.Groups = make([]api.Group, 41) }, api.ErrMany},
		{"many events", func(g *api.Graph) { g.Events = make([]api.Event, 81) }, api.ErrMany},
		{"many relations", func(g *api.Graph) { g.Relations = make([]api.Relation, 1<<20) }, api.ErrMany},
		{"many users", func(g *api.Graph) { g.Users = make([]api.User, 41) }, api.ErrMany},
		{"many roles", func(g *api.Graph) { g.Users[3].Roles = strings.Fields("a b c d e f g h k") }, api.ErrMany},
		{"a group of no name", func(g *api.Graph) { g.Groups[2].Name = "" }, api.ErrName},
		{"a group named by a form's word", func(g *api.Graph) { g.Groups[2].Name = "in" }, api.ErrName},
		{"a group twice", func(g *api.Graph) { g.Groups[2].Name = "g" }, api.ErrTwice},
		{"a group in none", func(g *api.Graph) { g.Groups[2].Parent = "x" }, api.ErrNone},
		{"an event of no name", func(g *api.Graph) { g.Events[3].Name = "A" }, api.ErrName},
		{"an event of no role", func(g *api.Graph) { g.Events[3].Role = "" }, api.ErrName},
		{"an event twice", func(g *api.Graph) { g.Events[3].Name = "a" }, api.ErrTwice},
		{"an event in none", func(g *api.Graph) { g.Events[3].Group = "x" }, api.ErrNone},
		{"an event that was due", func(g *api.Graph) { g.Events[3].Due = -2 }, api.ErrRange},
		{"an event due behind never", func(g *api.Graph) { g.Events[3].Due = api.Never + 1 }, api.ErrRange},
		{"a relation of no kind", func(g *api.Graph) { g.Relations[7].Kind = 0 }, api.ErrArg},
		{"a relation of a sixth kind", func(g *api.Graph) { g.Relations[7].Kind = 6 }, api.ErrArg},
		{"a relation to none", func(g *api.Graph) { g.Relations[7].To = "x" }, api.ErrNone},
		{"a milestone with a time", func(g *api.Graph) { g.Relations[7].Time = 1 }, api.ErrRange},
		{"a relation twice", func(g *api.Graph) { g.Relations[1] = g.Relations[0] }, api.ErrTwice},
		{"a user of no name", func(g *api.Graph) { g.Users[3].Name = "sub" }, api.ErrName},
		{"a role of no name", func(g *api.Graph) { g.Users[3].Roles = []string{"7"} }, api.ErrName},
		{"a user twice", func(g *api.Graph) { g.Users[3].Name = "u" }, api.ErrTwice},
		{"a role twice", func(g *api.Graph) { g.Users[3].Roles = []string{"r", "r"} }, api.ErrTwice},
		{"nobody stands in", func(g *api.Graph) { g.Users[3].Sub = "x" }, api.ErrNone},
		{"a ring", func(g *api.Graph) { g.Users[2].Sub = "v" }, api.ErrRing},
	} {
		g := sample()
		c.turn(&g)
		was := graph.Clone(g)
		if s, e := text.Print(g); s != "" || e != c.e {
			t.Errorf("%s: %q, %d, not %d", c.what, s, e, c.e)
		}
		if !reflect.DeepEqual(g, was) {
			t.Errorf("%s: changed", c.what)
		}
	}
}

// R3: nothing is written behind a graph's lists.
func TestPrintAndRoom(t *testing.T) {
	g := sample()
	g.Groups, g.Events = slices.Grow(g.Groups, 9), slices.Grow(g.Events, 9)
	g.Relations, g.Users = slices.Grow(g.Relations, 9), slices.Grow(g.Users, 9)
	for i, u := range g.Users {
		g.Users[i].Roles = slices.Grow(u.Roles, 9)
	}
	prints(t, g, sampleText)
	for _, u := range g.Users {
		if room := u.Roles[:len(u.Roles)+9]; strings.Join(room[len(u.Roles):], "") != "" {
			t.Errorf("%q", room)
		}
	}
}

// comesBack fails unless a graph's text tells the graph, and that graph's text is the same.
func comesBack(t *testing.T, g api.Graph) {
	t.Helper()
	s, e := text.Print(g)
	if e != api.OK {
		t.Fatalf("%v: %d", g, e)
	}
	parses(t, s, g)
	prints(t, g, s)
}

// full tells a graph that is as great as may be, of names as long as may be, of which nothing is left out.
func full() api.Graph {
	name := func(c string, i int) string {
		n := strconv.Itoa(i)
		return c + strings.Repeat("_", 19-len(n)) + n
	}
	var g api.Graph
	for i := range 40 {
		p := api.Group{Name: name("g", i)}
		if i > 0 {
			p.Parent = name("g", i-1)
		}
		g.Groups = append(g.Groups, p)
	}
	for i := range 80 {
		g.Events = append(g.Events, api.Event{Name: name("e", i), Group: name("g", i/2), Role: name("r", i%8), Done: true, Due: api.Never - 1})
	}
	for i := range 300 {
		g.Relations = append(g.Relations, api.Relation{Kind: 1 + i%2, From: name("e", i%80), To: name("e", i/2%79), Time: api.MaxAge})
	}
	for i := range 40 {
		u := api.User{Name: name("u", i)}
		for j := range 8 {
			u.Roles = append(u.Roles, name("r", j))
		}
		if i > 0 {
			u.Sub = name("u", i-1)
		}
		g.Users = append(g.Users, u)
	}
	return g
}

// P3.4: the sample, a graph as great as may be, and parts of these come back.
func TestComesBack(t *testing.T) {
	comesBack(t, api.Graph{})
	for _, g := range []api.Graph{sample(), full()} {
		comesBack(t, g)
		comesBack(t, api.Graph{Groups: g.Groups})
		comesBack(t, api.Graph{Groups: g.Groups, Events: g.Events})
		comesBack(t, api.Graph{Groups: g.Groups, Events: g.Events, Relations: g.Relations})
		comesBack(t, api.Graph{Users: g.Users})
	}
}

// chance tells a small graph that often may be.
func chance(r *rand.Rand) api.Graph {
	pick := func(words string) string {
		l := strings.Split(words, " ")
		return l[r.Intn(len(l))]
	}
	times := []int{0, 0, 1, 7, api.MaxAge, api.Never - 1, api.Never, api.Never}
	var g api.Graph
	for i := range r.Intn(4) {
		g.Groups = append(g.Groups, api.Group{Name: "g" + strconv.Itoa(i), Parent: pick("   g0 g1 g2")})
	}
	for i := range r.Intn(4) {
		v := api.Event{Name: "e" + strconv.Itoa(i), Group: pick("   g0 g1"), Role: pick("r q s"), Due: -1}
		v.In, v.Done = r.Intn(2) > 0, r.Intn(2) > 0
		if r.Intn(2) > 0 {
			v.Due = times[r.Intn(len(times))]
		}
		g.Events = append(g.Events, v)
	}
	for range r.Intn(4) {
		q := api.Relation{Kind: 1 + r.Intn(5), From: pick("e0 e0 e1 g0"), To: pick("e0 e0 e1 g0")}
		if q.Kind < api.Include {
			q.Time = times[r.Intn(len(times))]
		}
		g.Relations = append(g.Relations, q)
	}
	for i := range r.Intn(4) {
		u := api.User{Name: "u" + strconv.Itoa(i), Sub: pick("    u0 u1 u2")}
		for range r.Intn(3) {
			u.Roles = append(u.Roles, pick("r q s t p z"))
		}
		g.Users = append(g.Users, u)
	}
	return g
}

// loose tells a graph's text otherwise than Print: in another order, with gaps, and with numbers that may be left out.
func loose(r *rand.Rand, s string) string {
	statements := strings.SplitAfter(strings.TrimSpace(s), "\n")
	if s == "" {
		statements = nil
	}
	for i, q := range statements {
		if n := len(strings.Fields(q)); n == 3 && r.Intn(2) > 0 {
			switch strings.Fields(q)[0] {
			case "condition":
				q = strings.Replace(q, ";", " 0;", 1)
			case "response":
				q = strings.Replace(q, ";", " 1048576;", 1)
			}
		}
		if r.Intn(2) > 0 {
			q = strings.Replace(q, " pending", " due 1048576", 1)
		}
		statements[i] = q
	}
	gaps := []string{" ", "\n", "  ", " \n "}
	return strings.ReplaceAll(strings.Join(mixed(r, statements), ""), " ", gaps[r.Intn(len(gaps))])
}

// P3.1, P3.3 and P3.4, of very many small graphs.
func TestManySmallGraphs(t *testing.T) {
	r := rand.New(rand.NewSource(5))
	may := 0
	for range 20000 {
		g := chance(r)
		if _, e := graph.Check(g); e != api.OK {
			if s, wrong := text.Print(g); s != "" || wrong != e {
				t.Fatalf("%v: %q, %d, not %d", g, s, wrong, e)
			}
			continue
		}
		may++
		comesBack(t, g)
		s, _ := text.Print(g)
		parses(t, loose(r, s), g)
	}
	if may < 1000 {
		t.Errorf("%d", may)
	}
}

func BenchmarkParse(b *testing.B) {
	s, _ := text.Print(full())
	for b.Loop() {
		text.Parse(s)
	}
}
