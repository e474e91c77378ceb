package graph_test

import (
	"fmt"
	"maps"
	"math/rand"
	"reflect"
	"slices"
	"strings"
	"testing"

	"replevin/api"
	"replevin/graph"
)

// P2.2: the events of names.
func TestMembers(t *testing.T) {
	g := sample()
	g.Events = append(g.Events, api.Event{Name: "e", Group: "h", Role: "r", Due: -1})
	for s, want := range map[string][]int{
		"a": {0}, "b": {1}, "c": {2}, "d": {3}, "e": {4},
		"g": {1, 2, 4}, "h": {1, 4}, "k": {1}, "m": {3},
		"": nil, "u": nil, "v": nil, "r": nil, "x": nil, "G": nil, "group": nil, "a ": nil,
	} {
		if l := graph.Members(g, s); !slices.Equal(l, want) {
			t.Errorf("%q: %v, not %v", s, l, want)
		}
	}
}

// P2.2: a group without events, and groups within it that have some.
func TestMembersOfEmptyGroups(t *testing.T) {
	g := api.Graph{
		Groups: []api.Group{{Name: "g"}, {Name: "none"}, {Name: "h", Parent: "g"}, {Name: "i", Parent: "none"}, {Name: "k", Parent: "h"}},
		Events: []api.Event{{Name: "a", Group: "k", Role: "r"}, {Name: "b", Role: "r"}, {Name: "c", Group: "k", Role: "r"}},
	}
	for s, want := range map[string][]int{"g": {0, 2}, "h": {0, 2}, "k": {0, 2}, "none": nil, "i": nil, "": nil} {
		if l := graph.Members(g, s); !slices.Equal(l, want) {
			t.Errorf("%q: %v, not %v", s, l, want)
		}
	}
}

// P2.2: the places of events.
func TestFind(t *testing.T) {
	for s, want := range map[string]int{
		"a": 0, "b": 1, "c": 2, "d": 3,
		"g": -1, "m": -1, "u": -1, "r": -1, "": -1, "x": -1, "A": -1, "event": -1,
	} {
		if at := graph.Find(sample(), s); at != want {
			t.Errorf("%q: %d, not %d", s, at, want)
		}
	}
}

// P2.2: the groups above groups.
func TestAbove(t *testing.T) {
	for s, want := range map[string]string{
		"g": "g", "h": "h g", "k": "k h g", "m": "m",
		"a": "", "b": "", "u": "", "r": "", "": "", "x": "", "K": "", "in": "",
	} {
		if l := strings.Join(graph.Above(sample(), s), " "); l != want {
			t.Errorf("%q: %q, not %q", s, l, want)
		}
	}
}

// P2.2: all groups above the innermost, as deep as there may be.
func TestAboveDeep(t *testing.T) {
	g := wide(40, 1, 0, 0, 0)
	var want []string
	for i := range g.Groups {
		if i > 0 {
			g.Groups[i].Parent = g.Groups[i-1].Name
		}
		want = append([]string{g.Groups[i].Name}, want...)
		if l := graph.Above(g, g.Groups[i].Name); !slices.Equal(l, want) {
			t.Fatalf("%d: %v", i, l)
		}
	}
	g.Events[0].Group = g.Groups[39].Name
	for _, p := range g.Groups {
		if l := graph.Members(g, p.Name); !slices.Equal(l, []int{0}) {
			t.Errorf("%s: %v", p.Name, l)
		}
	}
}

// P2.2: roles, each once, in order of their bytes.
func TestRoles(t *testing.T) {
	if l := graph.Roles(sample()); !slices.Equal(l, []string{"q", "r", "s", "z"}) {
		t.Errorf("%v", l)
	}
	for _, c := range []struct {
		asked, had, want string
	}{
		{"", "", ""},
		{"r", "", "r"},
		{"", "r", "r"},
		{"r r", "r", "r"},
		{"b a", "d c", "a b c d"},
		{"a_", "a0 aa a", "a a0 a_ aa"},
		{"r10 r9", "r1 z b", "b r1 r10 r9 z"},
	} {
		var g api.Graph
		for i, s := range strings.Fields(c.asked) {
			g.Events = append(g.Events, api.Event{Name: "e" + name(i), Role: s})
		}
		if c.had != "" {
			g.Users = []api.User{{Name: "u"}, {Name: "v", Roles: strings.Fields(c.had)}, {Name: "w", Roles: strings.Fields(c.had)}}
		}
		if l := graph.Roles(g); !slices.Equal(l, strings.Fields(c.want)) {
			t.Errorf("%v: %v", c, l)
		}
	}
	if l := graph.Roles(wide(0, 0, 0, 40, 8)); len(l) != 8 {
		t.Errorf("%v", l)
	}
}

// P2.2: an empty graph has nothing.
func TestEmpty(t *testing.T) {
	for _, s := range []string{"", "a", "g"} {
		if len(graph.Members(api.Graph{}, s)) != 0 || graph.Find(api.Graph{}, s) != -1 || len(graph.Above(api.Graph{}, s)) != 0 {
			t.Errorf("%q", s)
		}
	}
	if len(graph.Roles(api.Graph{})) != 0 {
		t.Error("Roles")
	}
}

// changes tells, for each single thing of the sample, a change of it.
func changes() map[string]func(g *api.Graph) {
	return map[string]func(g *api.Graph){
		"a group's Name":        func(g *api.Graph) { g.Groups[1].Name = "x" },
		"a group's Parent":      func(g *api.Graph) { g.Groups[2].Parent = "g" },
		"groups' order":         func(g *api.Graph) { g.Groups[0], g.Groups[3] = g.Groups[3], g.Groups[0] },
		"a group less":          func(g *api.Graph) { g.Groups = g.Groups[:3] },
		"a group more":          func(g *api.Graph) { g.Groups = append(g.Groups, api.Group{}) },
		"an event's Name":       func(g *api.Graph) { g.Events[0].Name = "x" },
		"an event's Group":      func(g *api.Graph) { g.Events[0].Group = "g" },
		"an event's Role":       func(g *api.Graph) { g.Events[3].Role = "x" },
		"an event's In":         func(g *api.Graph) { g.Events[0].In = false },
		"an event's Done":       func(g *api.Graph) { g.Events[0].Done = true },
		"an event's Due":        func(g *api.Graph) { g.Events[0].Due = -2 },
		"events' order":         func(g *api.Graph) { g.Events[0], g.Events[1] = g.Events[1], g.Events[0] },
		"an event less":         func(g *api.Graph) { g.Events = g.Events[:3] },
		"an event more":         func(g *api.Graph) { g.Events = append(g.Events, api.Event{}) },
		"a relation's Kind":     func(g *api.Graph) { g.Relations[0].Kind = 2 },
		"a relation's From":     func(g *api.Graph) { g.Relations[0].From = "b" },
		"a relation's To":       func(g *api.Graph) { g.Relations[4].To = "b" },
		"a relation's Time":     func(g *api.Graph) { g.Relations[0].Time = 8 },
		"relations' order":      func(g *api.Graph) { g.Relations[3], g.Relations[4] = g.Relations[4], g.Relations[3] },
		"no relation":           func(g *api.Graph) { g.Relations = nil },
		"a relation more":       func(g *api.Graph) { g.Relations = append(g.Relations, api.Relation{}) },
		"a user's Name":         func(g *api.Graph) { g.Users[3].Name = "x" },
		"a user's role":         func(g *api.Graph) { g.Users[0].Roles[1] = "x" },
		"a user's roles' order": func(g *api.Graph) { slices.Reverse(g.Users[0].Roles) },
		"a user's role less":    func(g *api.Graph) { g.Users[0].Roles = g.Users[0].Roles[:1] },
		"a user's role more":    func(g *api.Graph) { g.Users[1].Roles = append(g.Users[1].Roles, "") },
		"a user's Sub":          func(g *api.Graph) { g.Users[0].Sub = "" },
		"users' order":          func(g *api.Graph) { g.Users[0], g.Users[1] = g.Users[1], g.Users[0] },
		"a user less":           func(g *api.Graph) { g.Users = g.Users[:3] },
		"a user more":           func(g *api.Graph) { g.Users = append(g.Users, api.User{}) },
	}
}

// P2.3: Same sees every difference, and none where there is none.
func TestSame(t *testing.T) {
	if !graph.Same(sample(), sample()) || !graph.Same(api.Graph{}, api.Graph{}) {
		t.Error("the same isn't")
	}
	if graph.Same(sample(), api.Graph{}) || graph.Same(api.Graph{}, sample()) {
		t.Error("nothing is all")
	}
	for what, turn := range changes() {
		g := turned(sample(), turn)
		if graph.Same(g, sample()) || graph.Same(sample(), g) || !graph.Same(g, turned(sample(), turn)) {
			t.Error(what)
		}
	}
}

// P2.3 and R6: an empty list and none are one.
func TestSameOfEmptyLists(t *testing.T) {
	empty := api.Graph{Groups: []api.Group{}, Events: []api.Event{}, Relations: []api.Relation{}, Users: []api.User{}}
	if !graph.Same(empty, api.Graph{}) || !graph.Same(api.Graph{}, empty) {
		t.Error("an empty list isn't none")
	}
	a, b := sample(), sample()
	a.Users[1].Roles, b.Users[1].Roles = nil, []string{}
	if !graph.Same(a, b) || !graph.Same(b, a) {
		t.Error("an empty list of roles isn't none")
	}
}

// P2.3: a clone is the same, of whatever graph, and neither changes with the other.
func TestClone(t *testing.T) {
	if !graph.Same(graph.Clone(api.Graph{}), api.Graph{}) {
		t.Error("nothing isn't the same")
	}
	for what, turn := range changes() {
		g := sample()
		c := graph.Clone(g)
		turn(&c)
		if !reflect.DeepEqual(g, sample()) {
			t.Errorf("%s: changed by its clone", what)
		}
		g = sample()
		c = graph.Clone(g)
		turn(&g)
		if !reflect.DeepEqual(c, sample()) {
			t.Errorf("%s: a clone is changed", what)
		}
		if !graph.Same(graph.Clone(g), g) {
			t.Errorf("%s: a clone isn't the same", what)
		}
	}
}

// P2.3: what is appended to a clone, or to what was cloned, isn't seen in the other.
func TestCloneAndAppend(t *testing.T) {
	roomy := sample()
	roomy.Groups = slices.Grow(roomy.Groups, 9)
	roomy.Events = slices.Grow(roomy.Events, 9)
	roomy.Relations = slices.Grow(roomy.Relations, 9)
	roomy.Users = slices.Grow(roomy.Users, 9)
	roomy.Users[0].Roles = slices.Grow(roomy.Users[0].Roles, 9)[:1]
	c := graph.Clone(roomy)
	_ = append(c.Groups, api.Group{Name: "other"})
	_ = append(c.Events, api.Event{Name: "other"})
	_ = append(c.Relations, api.Relation{From: "other"})
	_ = append(c.Users, api.User{Name: "other"})
	_ = append(c.Users[0].Roles, "other")
	g := roomy.Groups[:5][4].Name + roomy.Events[:5][4].Name + roomy.Relations[:6][5].From + roomy.Users[:5][4].Name
	if g != "" || roomy.Users[0].Roles[:2][1] != "z" {
		t.Errorf("%q, %v", g, roomy.Users[0].Roles[:2])
	}
}

// R3: answers are the caller's own, and arguments stay as they were.
func TestSharesNothing(t *testing.T) {
	g := sample()
	clear(graph.Members(g, "g"))
	clear(graph.Above(g, "k"))
	clear(graph.Roles(g))
	graph.Check(g)
	graph.Find(g, "a")
	graph.Same(g, g)
	if !reflect.DeepEqual(g, sample()) {
		t.Errorf("changed: %v", g)
	}
	if len(graph.Members(g, "g")) != 2 || graph.Above(g, "k")[0] != "k" || graph.Roles(g)[0] != "q" {
		t.Error("other answers than before")
	}
}

// P2.4: beginnings of events and of relations may be, as long as what they name is there.
func TestBeginnings(t *testing.T) {
	g := sample()
	for events := range len(g.Events) + 1 {
		for relations := range len(g.Relations) + 1 {
			p := graph.Clone(g)
			p.Events, p.Relations = p.Events[:events], p.Relations[:relations]
			missing := slices.IndexFunc(p.Relations, func(r api.Relation) bool { return !named(p, r.From) || !named(p, r.To) })
			if missing >= 0 {
				told(t, fmt.Sprint(events, relations), p, 3, missing, api.ErrNone)
			} else {
				told(t, fmt.Sprint(events, relations), p, 0, 0, api.OK)
			}
		}
	}
	full := wide(40, 80, 300, 40, 8)
	for n := range 301 {
		p := graph.Clone(full)
		p.Relations = p.Relations[:n]
		told(t, fmt.Sprint(n), p, 0, 0, api.OK)
	}
}

func named(g api.Graph, name string) bool {
	return slices.ContainsFunc(g.Groups, func(p api.Group) bool { return p.Name == name }) ||
		slices.ContainsFunc(g.Events, func(v api.Event) bool { return v.Name == name })
}

// pick tells one of these words.
func pick(r *rand.Rand, words string) string {
	l := strings.Split(words, " ")
	return l[r.Intn(len(l))]
}

// chance tells a small graph of few names, so that many things go wrong, and many don't.
func chance(r *rand.Rand) api.Graph {
	var g api.Graph
	for range r.Intn(4) {
		g.Groups = append(g.Groups, api.Group{Name: pick(r, "g h k m n a"), Parent: pick(r, "    g h k x")})
	}
	for range r.Intn(4) {
		g.Events = append(g.Events, api.Event{Name: pick(r, "a b c d e f g"), Group: pick(r, "   g h k"), Role: pick(r, "r q s r q s r q s due"), Due: r.Intn(30) - 2})
	}
	for range r.Intn(4) {
		g.Relations = append(g.Relations, api.Relation{Kind: 1 + r.Intn(5), From: pick(r, "a b c d g"), To: pick(r, "a b c d h"), Time: max(0, r.Intn(20)-18)})
	}
	for range r.Intn(5) {
		u := api.User{Name: pick(r, "u v w x y z a A"), Sub: pick(r, "   u v w x")}
		for range r.Intn(3) {
			u.Roles = append(u.Roles, pick(r, "r q s t p"))
		}
		g.Users = append(g.Users, u)
	}
	return g
}

// firstWrong says of a small graph, by loops alone, what Check should.
func firstWrong(g api.Graph) (graph.Place, api.Errno) {
	wrongs := []func() (int, api.Errno){
		func() (int, api.Errno) { return wrongGroup(g) },
		func() (int, api.Errno) { return wrongEvent(g) },
		func() (int, api.Errno) { return wrongRelation(g) },
		func() (int, api.Errno) { return wrongUser(g) },
	}
	for i, wrong := range wrongs {
		if at, e := wrong(); e != api.OK {
			return graph.Place{Part: i + 1, At: at}, e
		}
	}
	return graph.Place{}, api.OK
}

func wrongGroup(g api.Graph) (int, api.Errno) {
	for i, p := range g.Groups {
		twice, parent := false, p.Parent == ""
		for _, q := range g.Groups[:i] {
			twice = twice || q.Name == p.Name
			parent = parent || q.Name == p.Parent
		}
		if twice {
			return i, api.ErrTwice
		}
		if !parent {
			return i, api.ErrNone
		}
	}
	return 0, api.OK
}

func wrongEvent(g api.Graph) (int, api.Errno) {
	for i, v := range g.Events {
		twice, group := false, v.Group == ""
		for _, p := range g.Groups {
			twice = twice || p.Name == v.Name
			group = group || p.Name == v.Group
		}
		for _, w := range g.Events[:i] {
			twice = twice || w.Name == v.Name
		}
		switch {
		case v.Role == "due":
			return i, api.ErrName
		case twice:
			return i, api.ErrTwice
		case !group:
			return i, api.ErrNone
		case v.Due < -1:
			return i, api.ErrRange
		}
	}
	return 0, api.OK
}

func wrongRelation(g api.Graph) (int, api.Errno) {
	for i, r := range g.Relations {
		if !named(g, r.From) || !named(g, r.To) {
			return i, api.ErrNone
		}
		if r.Kind > 2 && r.Time > 0 {
			return i, api.ErrRange
		}
		for _, q := range g.Relations[:i] {
			if q.Kind == r.Kind && q.From == r.From && q.To == r.To {
				return i, api.ErrTwice
			}
		}
	}
	return 0, api.OK
}

func wrongUser(g api.Graph) (int, api.Errno) {
	find := func(name string) int {
		return slices.IndexFunc(g.Users, func(u api.User) bool { return u.Name == name })
	}
	for i, u := range g.Users {
		if u.Name == "A" {
			return i, api.ErrName
		}
		if find(u.Name) < i || len(u.Roles) == 2 && u.Roles[0] == u.Roles[1] {
			return i, api.ErrTwice
		}
		if u.Sub != "" && find(u.Sub) < 0 {
			return i, api.ErrNone
		}
		met := map[int]int{}
		for at := find(u.Sub); at >= 0 && met[at] == 0; at = find(g.Users[at].Sub) {
			met[at]++
		}
		if met[i] > 0 {
			return i, api.ErrRing
		}
	}
	return 0, api.OK
}

// inside says, by going up, whether an event is one of a name.
func inside(g api.Graph, v api.Event, name string) bool {
	if v.Name == name {
		return true
	}
	for at := v.Group; at != ""; {
		if at == name {
			return true
		}
		i := slices.IndexFunc(g.Groups, func(p api.Group) bool { return p.Name == at })
		at = g.Groups[i].Parent
	}
	return false
}

// P2.1 to P2.4, of very many small graphs.
func TestManySmallGraphs(t *testing.T) {
	r := rand.New(rand.NewSource(1))
	ends := map[graph.Place]int{}
	for range 20000 {
		g := chance(r)
		was := graph.Clone(g)
		p, e := graph.Check(g)
		if want, wrong := firstWrong(g); p != want || e != wrong {
			t.Fatalf("%v: %v, %d, not %v, %d", g, p, e, want, wrong)
		}
		ends[graph.Place{Part: p.Part, At: int(e)}]++
		tellsAll(t, g, e == api.OK)
		if !reflect.DeepEqual(g, was) || !graph.Same(g, was) {
			t.Fatalf("%v is changed, was %v", g, was)
		}
	}
	kinds := slices.Collect(maps.Keys(ends))
	if len(kinds) != 1+2+4+3+4 {
		t.Errorf("too few kinds of ends: %v", ends)
	}
}

// tellsAll fails unless Members, Find and Above tell, name by name, what they should of a graph that may be, or not.
func tellsAll(t *testing.T, g api.Graph, may bool) {
	t.Helper()
	for _, s := range strings.Split("a b c d e f g h k m n u x ", " ") {
		var members []int
		find := -1
		for i, v := range g.Events {
			if may && v.Name == s {
				find = i
			}
			if may && inside(g, v, s) {
				members = append(members, i)
			}
		}
		if l := graph.Members(g, s); !slices.Equal(l, members) {
			t.Fatalf("%v: Members of %q: %v, not %v", g, s, l, members)
		}
		if at := graph.Find(g, s); at != find {
			t.Fatalf("%v: Find %q: %d, not %d", g, s, at, find)
		}
		l := graph.Above(g, s)
		known := may && slices.ContainsFunc(g.Groups, func(p api.Group) bool { return p.Name == s })
		if known != (len(l) > 0) {
			t.Fatalf("%v: Above %q: %v", g, s, l)
		}
		for i, above := range l {
			var next string
			if i+1 < len(l) {
				next = l[i+1]
			}
			if i == 0 && above != s || !slices.Contains(g.Groups, api.Group{Name: above, Parent: next}) {
				t.Fatalf("%v: Above %q: %v", g, s, l)
			}
		}
	}
}

// P2.4, of very many small graphs that may be.
func TestManyBeginnings(t *testing.T) {
	r := rand.New(rand.NewSource(2))
	for range 20000 {
		g := chance(r)
		if _, e := graph.Check(g); e != api.OK {
			continue
		}
		for events := range len(g.Events) + 1 {
			p := graph.Clone(g)
			p.Events = p.Events[:events]
			p.Relations = slices.DeleteFunc(p.Relations, func(r api.Relation) bool { return !named(p, r.From) || !named(p, r.To) })
			if place, e := graph.Check(p); e != api.OK {
				t.Fatalf("%v: %v, %d", p, place, e)
			}
		}
	}
}

func BenchmarkCheck(b *testing.B) {
	g := wide(40, 80, 300, 40, 8)
	for b.Loop() {
		graph.Check(g)
	}
}
