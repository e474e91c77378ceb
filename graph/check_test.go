package graph_test

import (
	"math"
	"strconv"
	"strings"
	"testing"

	"replevin/api"
	"replevin/graph"
)

// sample tells a graph that may be, anew each time.
func sample() api.Graph {
	return api.Graph{
		Groups: []api.Group{{Name: "g"}, {Name: "h", Parent: "g"}, {Name: "k", Parent: "h"}, {Name: "m"}},
		Events: []api.Event{
			{Name: "a", Role: "r", In: true, Due: -1},
			{Name: "b", Group: "k", Role: "q", Due: 3},
			{Name: "c", Group: "g", Role: "r", Done: true, Due: api.Never},
			{Name: "d", Group: "m", Role: "s", Due: 0},
		},
		Relations: []api.Relation{
			{Kind: api.Condition, From: "a", To: "b", Time: 7},
			{Kind: api.Response, From: "b", To: "g", Time: 9},
			{Kind: api.Include, From: "g", To: "m"},
			{Kind: api.Exclude, From: "m", To: "a"},
			{Kind: api.Milestone, From: "a", To: "a"},
		},
		Users: []api.User{
			{Name: "u", Roles: []string{"r", "z"}, Sub: "v"},
			{Name: "v", Sub: "w"},
			{Name: "w", Roles: []string{"q"}},
			{Name: "a", Roles: []string{"r"}, Sub: "v"},
		},
	}
}

// fault turns a graph into one of which Check tells this.
type fault struct {
	what     string
	turn     func(g *api.Graph)
	part, at int
	e        api.Errno
}

func turned(g api.Graph, turns ...func(g *api.Graph)) api.Graph {
	for _, turn := range turns {
		turn(&g)
	}
	return g
}

// told fails unless Check tells this; of what may not be, nothing else is told.
func told(t *testing.T, what string, g api.Graph, part, at int, e api.Errno) {
	t.Helper()
	if p, got := graph.Check(g); p != (graph.Place{Part: part, At: at}) || got != e {
		t.Errorf("%.80q: %v, %d, not {%d %d}, %d", what, p, got, part, at, e)
	}
	if e == api.OK {
		return
	}
	for _, name := range []string{"a", "b", "g", "h", "m", "u", "", "x"} {
		if l := graph.Members(g, name); len(l) != 0 {
			t.Errorf("%.80q: Members of %q: %v", what, name, l)
		}
		if at := graph.Find(g, name); at != -1 {
			t.Errorf("%.80q: Find %q: %d", what, name, at)
		}
		if l := graph.Above(g, name); len(l) != 0 {
			t.Errorf("%.80q: Above %q: %v", what, name, l)
		}
	}
	if l := graph.Roles(g); len(l) != 0 {
		t.Errorf("%.80q: Roles: %v", what, l)
	}
}

func toldAll(t *testing.T, faults []fault) {
	t.Helper()
	for _, f := range faults {
		told(t, f.what, turned(sample(), f.turn), f.part, f.at, f.e)
	}
}

func fine(what string, turn func(g *api.Graph)) fault {
	return fault{what: what, turn: turn}
}

func name(i int) string { return "n" + strconv.Itoa(i) }

// wide tells a graph of so many groups, events, relations and users, the last of these with so many roles.
func wide(groups, events, relations, users, roles int) api.Graph {
	var g api.Graph
	for i := range groups {
		g.Groups = append(g.Groups, api.Group{Name: "g" + name(i)})
	}
	for i := range events {
		g.Events = append(g.Events, api.Event{Name: "e" + name(i), Role: "r", Due: -1})
	}
	for i := range relations {
		r := api.Relation{Kind: 1 + i%5, From: "e" + name(i/5%max(events, 1)), To: "e" + name(i/5/max(events, 1))}
		g.Relations = append(g.Relations, r)
	}
	for i := range users {
		g.Users = append(g.Users, api.User{Name: "u" + name(i)})
	}
	for i := range roles {
		u := &g.Users[users-1]
		u.Roles = append(u.Roles, "r"+name(i))
	}
	return g
}

// P2.1: graphs that may be.
func TestCheckFine(t *testing.T) {
	told(t, "empty", api.Graph{}, 0, 0, api.OK)
	told(t, "of empty lists", api.Graph{Groups: []api.Group{}, Events: []api.Event{}, Relations: []api.Relation{}, Users: []api.User{}}, 0, 0, api.OK)
	told(t, "the sample", sample(), 0, 0, api.OK)
	long := strings.Repeat("x", 20)
	toldAll(t, []fault{
		fine("names of 20 bytes", func(g *api.Graph) {
			g.Groups[3].Name, g.Events[3].Group, g.Relations[2].To, g.Relations[3].From = long, long, long, long
			g.Users[3].Name, g.Users[3].Roles[0] = long, long
		}),
		fine("nearly a word that is no name", func(g *api.Graph) {
			g.Events[3].Name, g.Events[3].Role, g.Users[3].Name = "sub_", "groups", "roles1"
		}),
		fine("a user of a group's name", func(g *api.Graph) { g.Users[3].Name = "g" }),
		fine("a role of its own user's name", func(g *api.Graph) { g.Users[3].Roles[0] = "a" }),
		fine("an event with its own name as a role", func(g *api.Graph) { g.Events[3].Role = "d" }),
		fine("an event with its group's name as a role", func(g *api.Graph) { g.Events[3].Role = "m" }),
		fine("no user", func(g *api.Graph) { g.Users = nil }),
		fine("nothing but users", func(g *api.Graph) { *g = api.Graph{Users: g.Users} }),
		fine("nothing but groups", func(g *api.Graph) { *g = api.Graph{Groups: g.Groups} }),
		fine("one role of two users", func(g *api.Graph) { g.Users[1].Roles = []string{"z", "r"} }),
		fine("one who stands in for two", func(g *api.Graph) { g.Users[0].Sub = "w" }),
		fine("one of another kind", func(g *api.Graph) { g.Relations[3] = api.Relation{Kind: api.Response, From: "a", To: "b"} }),
		fine("one back", func(g *api.Graph) { g.Relations[3] = api.Relation{Kind: api.Condition, From: "b", To: "a"} }),
		fine("one to another", func(g *api.Graph) { g.Relations[3] = api.Relation{Kind: api.Condition, From: "a", To: "c"} }),
		fine("one to its group", func(g *api.Graph) { g.Relations[3] = api.Relation{Kind: api.Condition, From: "a", To: "k"} }),
	})
}

// P2.1: how many there may be of each.
func TestCheckLimits(t *testing.T) {
	told(t, "full", wide(40, 80, 300, 40, 8), 0, 0, api.OK)
	for what, g := range map[string]api.Graph{
		"41 groups":             wide(41, 80, 300, 40, 8),
		"81 events":             wide(40, 81, 300, 40, 8),
		"301 relations":         wide(40, 80, 301, 40, 8),
		"41 users":              wide(40, 80, 300, 41, 8),
		"9 roles of the last":   wide(40, 80, 300, 40, 9),
		"9 roles of one alone":  {Users: []api.User{{Roles: make([]string, 9)}}},
		"9 roles of the first":  {Users: []api.User{{Name: "u", Roles: make([]string, 9)}, {Name: "v"}}},
		"9 roles of a later":    {Users: []api.User{{Name: "u"}, {Name: "v", Roles: make([]string, 9)}, {Name: "w"}}},
		"very many":             {Relations: make([]api.Relation, 1<<20), Users: make([]api.User, 1<<20)},
		"41 groups of no name":  {Groups: make([]api.Group, 41)},
		"81 events of no name":  {Events: make([]api.Event, 81)},
		"301 relations of none": {Relations: make([]api.Relation, 301)},
		"41 users of no name":   {Users: make([]api.User, 41)},
	} {
		told(t, what, g, 0, 0, api.ErrMany)
	}
}

// P2.1: limits are told ahead of all other things that are wrong.
func TestCheckLimitsFirst(t *testing.T) {
	for _, f := range faults() {
		for what, more := range map[string]func(g *api.Graph){
			"groups":    func(g *api.Graph) { g.Groups = append(g.Groups, make([]api.Group, 41)...) },
			"events":    func(g *api.Graph) { g.Events = append(g.Events, make([]api.Event, 81)...) },
			"relations": func(g *api.Graph) { g.Relations = append(g.Relations, make([]api.Relation, 301)...) },
			"users":     func(g *api.Graph) { g.Users = append(g.Users, make([]api.User, 41)...) },
			"roles":     func(g *api.Graph) { g.Users = append(g.Users, api.User{Roles: make([]string, 9)}) },
		} {
			told(t, f.what+", and many "+what, turned(sample(), f.turn, more), 0, 0, api.ErrMany)
		}
	}
}

func groupFaults() []fault {
	return []fault{
		{"the first group of no name", func(g *api.Graph) { g.Groups[0].Name = "" }, 1, 0, api.ErrName},
		{"the last group of a name in capitals", func(g *api.Graph) { g.Groups[3].Name = "M" }, 1, 3, api.ErrName},
		{"a group of a name too long", func(g *api.Graph) { g.Groups[2].Name = strings.Repeat("x", 21) }, 1, 2, api.ErrName},
		{"a group of the first one's name", func(g *api.Graph) { g.Groups[1] = api.Group{Name: "g"} }, 1, 1, api.ErrTwice},
		{"a last group of an inner one's name", func(g *api.Graph) { g.Groups[3].Name = "h" }, 1, 3, api.ErrTwice},
		{"the first group in one behind", func(g *api.Graph) { g.Groups[0].Parent = "h" }, 1, 0, api.ErrNone},
		{"the first group in itself", func(g *api.Graph) { g.Groups[0].Parent = "g" }, 1, 0, api.ErrNone},
		{"a later group in itself", func(g *api.Graph) { g.Groups[2].Parent = "k" }, 1, 2, api.ErrNone},
		{"a later group in one behind", func(g *api.Graph) { g.Groups[2].Parent = "m" }, 1, 2, api.ErrNone},
		{"a group in an event", func(g *api.Graph) { g.Groups[3].Parent = "a" }, 1, 3, api.ErrNone},
		{"a group in none", func(g *api.Graph) { g.Groups[3].Parent = "x" }, 1, 3, api.ErrNone},
		{"a group in what is no name", func(g *api.Graph) { g.Groups[3].Parent = "Role 1" }, 1, 3, api.ErrNone},
		{"of a group name ahead of twice", func(g *api.Graph) { g.Groups = append(g.Groups, api.Group{Name: "in"}, api.Group{Name: "in"}) }, 1, 4, api.ErrName},
		{"of a group name ahead of none", func(g *api.Graph) { g.Groups[1] = api.Group{Name: "sub", Parent: "x"} }, 1, 1, api.ErrName},
		{"of a group twice ahead of none", func(g *api.Graph) { g.Groups[1] = api.Group{Name: "g", Parent: "x"} }, 1, 1, api.ErrTwice},
		{"of groups the first", func(g *api.Graph) { g.Groups[1].Parent, g.Groups[2].Name = "x", "" }, 1, 1, api.ErrNone},
	}
}

func eventFaults() []fault {
	return []fault{
		{"the first event of no name", func(g *api.Graph) { g.Events[0].Name = "" }, 2, 0, api.ErrName},
		{"the last event of a wrong name", func(g *api.Graph) { g.Events[3].Name = "d d" }, 2, 3, api.ErrName},
		{"the first event of no role", func(g *api.Graph) { g.Events[0].Role = "" }, 2, 0, api.ErrName},
		{"a later event of a wrong role", func(g *api.Graph) { g.Events[2].Role = "_" }, 2, 2, api.ErrName},
		{"the first event in a group of a wrong name", func(g *api.Graph) { g.Events[0].Group = "9" }, 2, 0, api.ErrName},
		{"a later event in a group of a wrong name", func(g *api.Graph) { g.Events[2].Group = "done" }, 2, 2, api.ErrName},
		{"the first event of a group's name", func(g *api.Graph) { g.Events[0].Name = "g" }, 2, 0, api.ErrTwice},
		{"a later event of the last group's name", func(g *api.Graph) { g.Events[2].Name = "m" }, 2, 2, api.ErrTwice},
		{"a later event of the first one's name", func(g *api.Graph) { g.Events[1].Name = "a" }, 2, 1, api.ErrTwice},
		{"the last event of an inner one's name", func(g *api.Graph) { g.Events[3].Name = "b" }, 2, 3, api.ErrTwice},
		{"the first event in no group", func(g *api.Graph) { g.Events[0].Group = "x" }, 2, 0, api.ErrNone},
		{"a later event in an event", func(g *api.Graph) { g.Events[2].Group = "a" }, 2, 2, api.ErrNone},
		{"a later event in itself", func(g *api.Graph) { g.Events[2].Group = "c" }, 2, 2, api.ErrNone},
		{"the first event due at -2", func(g *api.Graph) { g.Events[0].Due = -2 }, 2, 0, api.ErrRange},
		{"the last event due behind never", func(g *api.Graph) { g.Events[3].Due = api.Never + 1 }, 2, 3, api.ErrRange},
		{"of an event name ahead of twice", func(g *api.Graph) { g.Events[0].Role, g.Events[0].Name = "R", "g" }, 2, 0, api.ErrName},
		{"of an event role ahead of none", func(g *api.Graph) { g.Events[1].Role, g.Events[1].Group = "R", "x" }, 2, 1, api.ErrName},
		{"of an event its group's name ahead of twice", func(g *api.Graph) { g.Events[1].Group, g.Events[1].Name = "R", "a" }, 2, 1, api.ErrName},
		{"of an event name ahead of range", func(g *api.Graph) { g.Events[1].Due, g.Events[1].Name = -2, "A" }, 2, 1, api.ErrName},
		{"of an event twice ahead of none", func(g *api.Graph) { g.Events[1].Group, g.Events[1].Name = "x", "a" }, 2, 1, api.ErrTwice},
		{"of an event twice ahead of range", func(g *api.Graph) { g.Events[1].Due, g.Events[1].Name = -2, "a" }, 2, 1, api.ErrTwice},
		{"of an event none ahead of range", func(g *api.Graph) { g.Events[1].Due, g.Events[1].Group = -2, "x" }, 2, 1, api.ErrNone},
		{"of events the first", func(g *api.Graph) { g.Events[1].Due, g.Events[2].Name = -2, "" }, 2, 1, api.ErrRange},
	}
}

func relationFaults() []fault {
	return []fault{
		{"the first relation of kind 0", func(g *api.Graph) { g.Relations[0].Kind = 0 }, 3, 0, api.ErrArg},
		{"the last relation of kind 6", func(g *api.Graph) { g.Relations[4].Kind = 6 }, 3, 4, api.ErrArg},
		{"a relation of kind -1", func(g *api.Graph) { g.Relations[2].Kind = -1 }, 3, 2, api.ErrArg},
		{"the first relation from none", func(g *api.Graph) { g.Relations[0].From = "x" }, 3, 0, api.ErrNone},
		{"a later relation from a user", func(g *api.Graph) { g.Relations[2].From = "u" }, 3, 2, api.ErrNone},
		{"a later relation from a role", func(g *api.Graph) { g.Relations[2].From = "r" }, 3, 2, api.ErrNone},
		{"the first relation to nothing", func(g *api.Graph) { g.Relations[0].To = "" }, 3, 0, api.ErrNone},
		{"the last relation to what is no name", func(g *api.Graph) { g.Relations[4].To = "in" }, 3, 4, api.ErrNone},
		{"the first relation of a time too long", func(g *api.Graph) { g.Relations[0].Time = api.MaxAge + 1 }, 3, 0, api.ErrRange},
		{"the last relation of a time", func(g *api.Graph) { g.Relations[4].Time = 1 }, 3, 4, api.ErrRange},
		{"a relation like the first", func(g *api.Graph) { g.Relations[1] = g.Relations[0] }, 3, 1, api.ErrTwice},
		{"the last relation like an inner one, of another time", func(g *api.Graph) { g.Relations[4] = g.Relations[1]; g.Relations[4].Time = 2 }, 3, 4, api.ErrTwice},
		{"of a relation kind ahead of none", func(g *api.Graph) { g.Relations[1].Kind, g.Relations[1].To = 0, "x" }, 3, 1, api.ErrArg},
		{"of a relation kind ahead of range", func(g *api.Graph) { g.Relations[1].Kind, g.Relations[1].Time = 6, -1 }, 3, 1, api.ErrArg},
		{"of a relation none ahead of range", func(g *api.Graph) { g.Relations[1].To, g.Relations[1].Time = "x", -1 }, 3, 1, api.ErrNone},
		{"of a relation range ahead of twice", func(g *api.Graph) { g.Relations[1] = g.Relations[0]; g.Relations[1].Time = -1 }, 3, 1, api.ErrRange},
		{"of relations the first", func(g *api.Graph) { g.Relations[2].Time, g.Relations[3].Kind = 1, 0 }, 3, 2, api.ErrRange},
	}
}

func userFaults() []fault {
	return []fault{
		{"the first user of no name", func(g *api.Graph) { g.Users[0].Name = "" }, 4, 0, api.ErrName},
		{"the last user of a wrong name", func(g *api.Graph) { g.Users[3].Name = "user" }, 4, 3, api.ErrName},
		{"the first user of a wrong first role", func(g *api.Graph) { g.Users[0].Roles[0] = "" }, 4, 0, api.ErrName},
		{"the first user of a wrong last role", func(g *api.Graph) { g.Users[0].Roles[1] = "Z" }, 4, 0, api.ErrName},
		{"the last user of a wrong role", func(g *api.Graph) { g.Users[3].Roles[0] = "roles" }, 4, 3, api.ErrName},
		{"a user of the first one's name", func(g *api.Graph) { g.Users[0].Sub, g.Users[1].Name = "w", "u" }, 4, 1, api.ErrTwice},
		{"the last user of an inner one's name", func(g *api.Graph) { g.Users[3] = api.User{Name: "v"} }, 4, 3, api.ErrTwice},
		{"the first user of a role twice", func(g *api.Graph) { g.Users[0].Roles[1] = "r" }, 4, 0, api.ErrTwice},
		{"a later user of a role twice", func(g *api.Graph) { g.Users[2].Roles = []string{"p", "q", "s", "q"} }, 4, 2, api.ErrTwice},
		{"nobody stands in for the first user", func(g *api.Graph) { g.Users[0].Sub = "x" }, 4, 0, api.ErrNone},
		{"an event stands in for a user", func(g *api.Graph) { g.Users[2].Sub = "b" }, 4, 2, api.ErrNone},
		{"what is no name stands in for a user", func(g *api.Graph) { g.Users[2].Sub = "sub" }, 4, 2, api.ErrNone},
		{"the first user stands in for itself", func(g *api.Graph) { g.Users[0].Sub = "u" }, 4, 0, api.ErrRing},
		{"a later user stands in for itself", func(g *api.Graph) { g.Users[2].Sub = "w" }, 4, 2, api.ErrRing},
		{"a ring of two behind the first user", func(g *api.Graph) { g.Users[2].Sub = "v" }, 4, 1, api.ErrRing},
		{"a ring of three", func(g *api.Graph) { g.Users[2].Sub = "u" }, 4, 0, api.ErrRing},
		{"a ring with the last user", func(g *api.Graph) { g.Users[2].Sub = "a" }, 4, 1, api.ErrRing},
		{"of a user name ahead of twice", func(g *api.Graph) { g.Users[0].Sub, g.Users[1].Name, g.Users[1].Roles = "w", "u", []string{"R"} }, 4, 1, api.ErrName},
		{"of a user name ahead of a role twice", func(g *api.Graph) { g.Users[0].Name, g.Users[0].Roles[1] = "U", "r" }, 4, 0, api.ErrName},
		{"of a user name ahead of none", func(g *api.Graph) { g.Users[0].Name, g.Users[0].Sub = "U", "x" }, 4, 0, api.ErrName},
		{"of a user role ahead of ring", func(g *api.Graph) { g.Users[0].Roles[1], g.Users[0].Sub = "R", "u" }, 4, 0, api.ErrName},
		{"of a user twice ahead of none", func(g *api.Graph) { g.Users[3].Name, g.Users[3].Sub = "u", "x" }, 4, 3, api.ErrTwice},
		{"of a user a role twice ahead of none", func(g *api.Graph) { g.Users[0].Roles[1], g.Users[0].Sub = "r", "x" }, 4, 0, api.ErrTwice},
		{"of a user a role twice ahead of ring", func(g *api.Graph) { g.Users[0].Roles[1], g.Users[0].Sub = "r", "u" }, 4, 0, api.ErrTwice},
		{"of users the first", func(g *api.Graph) { g.Users[1].Sub, g.Users[2].Name = "x", "W" }, 4, 1, api.ErrNone},
	}
}

func faults() []fault {
	l := append(groupFaults(), eventFaults()...)
	l = append(l, relationFaults()...)
	return append(l, userFaults()...)
}

// P2.1: each error of each part, and of one thing the first.
func TestCheckFaults(t *testing.T) {
	toldAll(t, faults())
}

// P2.1: of two parts the first one's error is told.
func TestCheckPartsInOrder(t *testing.T) {
	l := faults()
	for _, f := range l {
		for _, other := range l {
			if f.part < other.part {
				g := turned(sample(), other.turn, f.turn)
				told(t, f.what+", and "+other.what, g, f.part, f.at, f.e)
			}
		}
	}
}

// P2.1: words that are no names, wherever a name is asked.
func TestCheckNames(t *testing.T) {
	wrong := strings.Fields("group event role in excluded done pending due condition response include exclude milestone user roles sub")
	if len(wrong) != 16 {
		t.Fatal(len(wrong))
	}
	wrong = append(wrong, "A", "aB", "_", "_a", "0", "1a", " ", "a ", " a", "a\n", "a;", ";", "a-b", "\u00e9", "a\u00e9", "a\xff", "a\x00", strings.Repeat("x", 21), strings.Repeat("x", 1<<20))
	for _, s := range append(wrong, "") {
		toldAll(t, []fault{
			{"group " + s, func(g *api.Graph) { g.Groups[1].Name = s }, 1, 1, api.ErrName},
			{"event " + s, func(g *api.Graph) { g.Events[1].Name = s }, 2, 1, api.ErrName},
			{"role " + s, func(g *api.Graph) { g.Events[1].Role = s }, 2, 1, api.ErrName},
			{"user " + s, func(g *api.Graph) { g.Users[1].Name, g.Users[0].Sub, g.Users[3].Sub = s, "w", "w" }, 4, 1, api.ErrName},
			{"a user's role " + s, func(g *api.Graph) { g.Users[2].Roles = []string{"p", s, "q"} }, 4, 2, api.ErrName},
		})
	}
	for _, s := range wrong {
		toldAll(t, []fault{
			{"an event's group " + s, func(g *api.Graph) { g.Events[1].Group = s }, 2, 1, api.ErrName},
			{"a parent " + s, func(g *api.Graph) { g.Groups[1].Parent = s }, 1, 1, api.ErrNone},
			{"who stands in " + s, func(g *api.Graph) { g.Users[2].Sub = s }, 4, 2, api.ErrNone},
			{"from " + s, func(g *api.Graph) { g.Relations[2].From = s }, 3, 2, api.ErrNone},
		})
	}
}

// P2.1: when an event may be due.
func TestCheckDue(t *testing.T) {
	for due, e := range map[int]api.Errno{
		math.MinInt: api.ErrRange, -2: api.ErrRange,
		-1: api.OK, 0: api.OK, 1: api.OK, api.MaxAge + 1: api.OK, api.Never - 1: api.OK, api.Never: api.OK,
		api.Never + 1: api.ErrRange, math.MaxInt: api.ErrRange,
	} {
		for at := range 4 {
			g := sample()
			g.Events[at].Due = due
			if e == api.OK {
				told(t, "due", g, 0, 0, e)
			} else {
				told(t, "due", g, 2, at, e)
			}
		}
	}
}

// P2.1: which times and kinds a relation may have.
func TestCheckTimes(t *testing.T) {
	longest := map[int]int{api.Condition: api.MaxAge, api.Response: api.Never, api.Include: 0, api.Exclude: 0, api.Milestone: 0}
	times := []int{math.MinInt, -1, 0, 1, api.MaxAge - 1, api.MaxAge, api.MaxAge + 1, api.Never - 1, api.Never, api.Never + 1, math.MaxInt}
	for _, kind := range []int{math.MinInt, -1, 0, 1, 2, 3, 4, 5, 6, 7, math.MaxInt} {
		for _, time := range times {
			g := sample()
			g.Relations = append(g.Relations, api.Relation{Kind: kind, From: "d", To: "c", Time: time})
			what := "kind " + strconv.Itoa(kind) + " time " + strconv.Itoa(time)
			most, known := longest[kind]
			switch {
			case !known:
				told(t, what, g, 3, 5, api.ErrArg)
			case time < 0 || time > most:
				told(t, what, g, 3, 5, api.ErrRange)
			default:
				told(t, what, g, 0, 0, api.OK)
			}
		}
	}
}

// staff tells a graph of users, each a name and who stands in.
func staff(l ...string) api.Graph {
	var g api.Graph
	for _, s := range l {
		name, sub, _ := strings.Cut(s, ">")
		g.Users = append(g.Users, api.User{Name: name, Sub: sub})
	}
	return g
}

// P2.1: users of one name, and rings of who stands in for whom.
func TestCheckRings(t *testing.T) {
	for _, c := range []struct {
		users string
		at    int
		e     api.Errno
	}{
		{"u>v v>w w", 0, api.OK},
		{"w v>w u>v", 0, api.OK},
		{"u>w v>w w", 0, api.OK},
		{"u>u", 0, api.ErrRing},
		{"u>v v>u", 0, api.ErrRing},
		{"u>v v>v", 1, api.ErrRing},
		{"u>v v>w w>v", 1, api.ErrRing},
		{"u>w v>w w>x x>y y>w", 2, api.ErrRing},
		{"x u>v v>w w>u", 1, api.ErrRing},
		{"u>v v>x x>y y>x", 2, api.ErrRing},
		{"u>v v>u w>x x>w", 0, api.ErrRing},
		{"u v>w w>v x>y y>x", 1, api.ErrRing},
		// The first v is followed: its fault is its own.
		{"u>v v v>u", 2, api.ErrTwice},
		{"u>v v>u v", 0, api.ErrRing},
		{"u>v v>w w w>u", 3, api.ErrTwice},
		{"v u>v v>u", 2, api.ErrTwice},
		{"v>u u>v v", 0, api.ErrRing},
		{"u>v w v v>v", 3, api.ErrTwice},
		{"u u>u", 1, api.ErrTwice},
		{"u>v u>u v>u", 0, api.ErrRing},
		{"u>v u v", 1, api.ErrTwice},
		{"u u u", 1, api.ErrTwice},
		// A chain that leads to nobody is the fault of its last one.
		{"u>v v>x", 1, api.ErrNone},
		{"u>v v>w w>x v", 2, api.ErrNone},
		{"u>x v>v", 0, api.ErrNone},
		{"v>v u>x", 0, api.ErrRing},
		// A user whose name may not be is a user all the same.
		{"u>V V", 1, api.ErrName},
		{"u>V V>u", 0, api.ErrRing},
		{"u>v v >u", 2, api.ErrName},
		{"u>v v>in in", 2, api.ErrName},
		{"u >u", 1, api.ErrName},
	} {
		part := 4
		if c.e == api.OK {
			part = 0
		}
		told(t, c.users, staff(strings.Split(c.users, " ")...), part, c.at, c.e)
	}
}

// P2.1: rings and chains of as many users as there may be.
func TestCheckLongRings(t *testing.T) {
	for back := range 40 {
		g := wide(0, 0, 0, 40, 0)
		for i := range 39 {
			g.Users[i].Sub = g.Users[i+1].Name
		}
		told(t, "a chain", g, 0, 0, api.OK)
		g.Users[39].Sub = g.Users[back].Name
		told(t, "a ring", g, 4, back, api.ErrRing)
	}
}

// P2.1: groups as deep as there may be.
func TestCheckDeepGroups(t *testing.T) {
	g := wide(40, 1, 0, 0, 0)
	for i := range 39 {
		g.Groups[i+1].Parent = g.Groups[i].Name
	}
	told(t, "deep", g, 0, 0, api.OK)
	for i := range 40 {
		for j := i; j < 40; j++ {
			h := graph.Clone(g)
			h.Groups[i].Parent = h.Groups[j].Name
			told(t, "deep, and back", h, 1, i, api.ErrNone)
		}
	}
}
