package staff_test

import (
	"reflect"
	"strconv"
	"strings"
	"testing"

	"replevin/api"
	"replevin/graph"
	"replevin/staff"
)

// sample tells a graph, anew each time, of chains that meet: u v w, v w, w, x w, and y alone.
func sample() api.Graph {
	return api.Graph{
		Groups: []api.Group{{Name: "g"}},
		Events: []api.Event{{Name: "e", Group: "g", Role: "q", Due: -1}, {Name: "f", Role: "asked", Due: -1}},
		Users: []api.User{
			{Name: "u", Roles: []string{"r", "q"}, Sub: "v"},
			{Name: "v", Sub: "w"},
			{Name: "w", Roles: []string{"p", "r"}},
			{Name: "x", Roles: []string{"q", "s"}, Sub: "w"},
			{Name: "y", Roles: []string{"z", "p"}},
		},
	}
}

// strange tells names that no user of the sample has: those of other things, such as are nearly a user's, and such as are no names.
func strange() []string {
	return []string{"", "e", "f", "g", "r", "q", "z", "asked", "U", "u ", " u", "u v", "uu", "u\x00", "user", "sub", "\xff", strings.Repeat("u", 1<<20)}
}

// of tells users, a word each: a name, behind > who stands in, and behind : the roles, with a , between.
func of(text string) api.Graph {
	var g api.Graph
	for _, word := range strings.Fields(text) {
		name, roles, _ := strings.Cut(word, ":")
		name, sub, _ := strings.Cut(name, ">")
		u := api.User{Name: name, Sub: sub}
		if roles != "" {
			u.Roles = strings.Split(roles, ",")
		}
		g.Users = append(g.Users, u)
	}
	return g
}

func name(at int) string { return "u" + strconv.Itoa(at) }

// longest tells a graph of as many users as may be, of which each but the last one has the next one as Sub, and all of them as many roles as may be: r0 to r7 each, but the last one, which has l0 to l7.
func longest() api.Graph {
	var g api.Graph
	for at := range 40 {
		u := api.User{Name: name(at), Sub: name(at + 1)}
		if at == 39 {
			u.Sub = ""
		}
		for i := range 8 {
			role := "r" + strconv.Itoa(i)
			if at == 39 {
				role = "l" + strconv.Itoa(i)
			}
			u.Roles = append(u.Roles, role)
		}
		g.Users = append(g.Users, u)
	}
	return g
}

// made tells the staff of a graph, with these away.
func made(t *testing.T, g api.Graph, away ...string) *staff.Staff {
	t.Helper()
	s, e := staff.New(g)
	if e != api.OK || s == nil {
		t.Fatalf("%v: %d", g, e)
	}
	for _, user := range away {
		goes(t, s, user, true, api.OK)
	}
	return s
}

// goes fails unless an Away answers so.
func goes(t *testing.T, s *staff.Staff, user string, away bool, want api.Errno) {
	t.Helper()
	if e := s.Away(user, away); e != want {
		t.Errorf("%.40q, %v: %d, not %d", user, away, e, want)
	}
}

// are fails unless names are these, with a space between.
func are(t *testing.T, what string, got []string, want string) {
	t.Helper()
	if s := strings.Join(got, " "); s != want || len(got) != len(strings.Fields(want)) {
		t.Errorf("%.40q: %q, not %q", what, got, want)
	}
}

// isHere fails unless these are here, and others are not.
func isHere(t *testing.T, s *staff.Staff, here, others string) {
	t.Helper()
	for _, user := range strings.Fields(here) {
		if !s.Here(user) {
			t.Errorf("%s isn't here", user)
		}
	}
	for _, user := range strings.Fields(others) {
		if s.Here(user) {
			t.Errorf("%s is here", user)
		}
	}
}

// P10.1 and P10.2: the chapter's example.
func TestExample(t *testing.T) {
	s := made(t, of("u>v v>w w"))
	are(t, "u", s.Chain("u"), "u v w")
	isHere(t, s, "u v w", "")
}

// P10.1: of a graph that may not be there is no staff, but Check's error.
func TestNewRefuses(t *testing.T) {
	for what, c := range map[string]struct {
		turn func(g *api.Graph)
		want api.Errno
	}{
		"41 groups":            {func(g *api.Graph) { g.Groups = make([]api.Group, 41) }, api.ErrMany},
		"41 users":             {func(g *api.Graph) { *g = longest(); g.Users = append(g.Users, api.User{Name: "v"}) }, api.ErrMany},
		"very many users":      {func(g *api.Graph) { g.Users = make([]api.User, 1<<20) }, api.ErrMany},
		"9 roles":              {func(g *api.Graph) { g.Users[1].Roles = strings.Fields("a b c d k l m n o") }, api.ErrMany},
		"a group of no name":   {func(g *api.Graph) { g.Groups[0].Name = "" }, api.ErrName},
		"an event of no role":  {func(g *api.Graph) { g.Events[1].Role = "" }, api.ErrName},
		"an event twice":       {func(g *api.Graph) { g.Events[1].Name = "e" }, api.ErrTwice},
		"an event in no group": {func(g *api.Graph) { g.Events[1].Group = "k" }, api.ErrNone},
		"an event due at -2":   {func(g *api.Graph) { g.Events[1].Due = -2 }, api.ErrRange},
		"of no kind":           {func(g *api.Graph) { g.Relations = []api.Relation{{From: "e", To: "f"}} }, api.ErrArg},
		"from nothing":         {func(g *api.Graph) { g.Relations = []api.Relation{{Kind: 1, From: "u", To: "f"}} }, api.ErrNone},
		"a user of no name":    {func(g *api.Graph) { g.Users[4].Name = "" }, api.ErrName},
		"a user of a word":     {func(g *api.Graph) { g.Users[4].Name = "user" }, api.ErrName},
		"a role of no name":    {func(g *api.Graph) { g.Users[4].Roles[1] = "" }, api.ErrName},
		"a user twice":         {func(g *api.Graph) { g.Users[4].Name = "u" }, api.ErrTwice},
		"a role twice":         {func(g *api.Graph) { g.Users[4].Roles[1] = "z" }, api.ErrTwice},
		"nobody stands in":     {func(g *api.Graph) { g.Users[4].Sub = "e" }, api.ErrNone},
		"for itself":           {func(g *api.Graph) { g.Users[4].Sub = "y" }, api.ErrRing},
		"a ring of three":      {func(g *api.Graph) { g.Users[2].Sub = "u" }, api.ErrRing},
		"a ring further on":    {func(g *api.Graph) { g.Users[2].Sub = "v" }, api.ErrRing},
		"a group ahead of all": {func(g *api.Graph) { g.Groups[0].Name, g.Users[4].Sub = "in", "y" }, api.ErrName},
	} {
		g := sample()
		c.turn(&g)
		s, e := staff.New(g)
		if _, check := graph.Check(g); s != nil || e != c.want || e != check {
			t.Errorf("%s: %v, %d, not %d, %d", what, s, e, c.want, check)
		}
	}
}

// P10.1 and P10.2: of a graph without users nobody is, or has anything.
func TestNobody(t *testing.T) {
	for _, g := range []api.Graph{{}, {Users: []api.User{}}, {Events: sample().Events, Groups: sample().Groups}} {
		s := made(t, g)
		for _, user := range append(strange(), "u") {
			noUser(t, s, user)
			for _, role := range []string{"", "r", "q", "asked", user} {
				nobodys(t, s, role)
				if s.May(user, role) {
					t.Errorf("%.40q may %.40q", user, role)
				}
			}
		}
	}
}

// noUser fails unless a name is no user's.
func noUser(t *testing.T, s *staff.Staff, user string) {
	t.Helper()
	goes(t, s, user, true, api.ErrNone)
	goes(t, s, user, false, api.ErrNone)
	if s.Here(user) || len(s.Chain(user)) != 0 || s.For(user) != "" {
		t.Errorf("%.40q: %v, %v, %q", user, s.Here(user), s.Chain(user), s.For(user))
	}
	for _, steps := range []int{-1, 0, 1, 2, 40} {
		if next := s.Next(user, steps); next != "" {
			t.Errorf("%.40q, %d: %q", user, steps, next)
		}
	}
}

// nobodys fails unless nobody holds a role, and nobody may do what it does.
func nobodys(t *testing.T, s *staff.Staff, role string) {
	t.Helper()
	if len(s.Holders(role)) != 0 || len(s.Able(role)) != 0 {
		t.Errorf("%.40q: %v, %v", role, s.Holders(role), s.Able(role))
	}
}

// P10.1 and P10.2: of as many users and roles as may be.
func TestMost(t *testing.T) {
	g := longest()
	s := made(t, g)
	for at, u := range g.Users {
		isHere(t, s, u.Name, "")
		if l := s.Chain(u.Name); len(l) != 40-at || l[0] != u.Name || l[len(l)-1] != name(39) {
			t.Errorf("%s: %v", u.Name, l)
		}
		for _, role := range u.Roles {
			want := 39
			if at == 39 {
				want = 1
			}
			if l := s.Holders(role); len(l) != want || !s.May(u.Name, role) {
				t.Errorf("%s, %s: %v", u.Name, role, l)
			}
		}
	}
	noUser(t, s, name(40))
}

// P10.1: a user is away, or here again, as often as it is told; others stay as they were.
func TestAway(t *testing.T) {
	s := made(t, sample())
	isHere(t, s, "u v w x y", "")
	for _, c := range []struct {
		user         string
		away         bool
		here, others string
	}{
		{"v", false, "u v w x y", ""},
		{"v", true, "u w x y", "v"},
		{"v", true, "u w x y", "v"},
		{"y", true, "u w x", "v y"},
		{"u", true, "w x", "u v y"},
		{"v", false, "v w x", "u y"},
		{"v", false, "v w x", "u y"},
		{"w", true, "v x", "u w y"},
		{"x", true, "v", "u w x y"},
		{"v", true, "", "u v w x y"},
		{"y", false, "y", "u v w x"},
		{"u", false, "u y", "v w x"},
		{"w", false, "u w y", "v x"},
		{"x", false, "u w x y", "v"},
		{"v", false, "u v w x y", ""},
	} {
		goes(t, s, c.user, c.away, api.OK)
		isHere(t, s, c.here, c.others)
	}
}

// P10.1: of a name that is no user's: ErrNone, and all is as it was (R2).
func TestAwayRefuses(t *testing.T) {
	for _, away := range []string{"", "v", "u w", "u v w x y"} {
		s := made(t, sample(), strings.Fields(away)...)
		was := all(s)
		for _, user := range strange() {
			noUser(t, s, user)
		}
		if now := all(s); !reflect.DeepEqual(now, was) {
			t.Errorf("%q away: %v, not %v", away, now, was)
		}
	}
}

// P10.1: a user may be called as an event, a group or a role is, which are no users.
func TestSameNames(t *testing.T) {
	g := sample()
	g.Users = of("e>g:u,g g:e u:q").Users
	s := made(t, g)
	are(t, "e", s.Chain("e"), "e g")
	are(t, "u", s.Holders("u"), "e")
	are(t, "e", s.Able("e"), "g")
	are(t, "g", s.Able("g"), "e g")
	are(t, "q", s.Able("q"), "u")
	goes(t, s, "e", true, api.OK)
	are(t, "u", s.Able("u"), "g")
	noUser(t, s, "f")
	noUser(t, s, "q")
}
