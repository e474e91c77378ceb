package cert_test

import (
	"strconv"
	"strings"
	"testing"

	"replevin/api"
	"replevin/cert"
	"replevin/flat"
)

// judges fails unless this is told of a graph.
func judges(t *testing.T, g api.Graph, want cert.Verdict) {
	t.Helper()
	if v := cert.Analyse(g); v != want {
		t.Errorf("%v: %v, not %v", brief(g.Events), v, want)
	}
}

// refuses fails unless a text's graph isn't accepted, by this reason, and at this place.
func refuses(t *testing.T, s string, reason, at int) {
	t.Helper()
	judges(t, parsed(t, s), cert.Verdict{Reason: reason, At: at})
}

// accepts fails unless a text's graph is accepted, of this bound.
func accepts(t *testing.T, s string, bound int) {
	t.Helper()
	judges(t, parsed(t, s), cert.Verdict{Ok: true, Bound: bound})
}

// P8.1: a graph that may not be, whatever is wrong with it, at whatever place.
func TestMayNotBe(t *testing.T) {
	s := "group g; event a role r; event b in g role r pending; condition a b 2; response b a 9; exclude a b;"
	for i, turn := range []func(*api.Graph){
		func(g *api.Graph) { g.Groups = make([]api.Group, 41) },
		func(g *api.Graph) { g.Groups[0].Name = "in" },
		func(g *api.Graph) { g.Groups[0].Parent = "h" },
		func(g *api.Graph) { g.Events[1].Name = "a" },
		func(g *api.Graph) { g.Events[1].Role = "" },
		func(g *api.Graph) { g.Events[1].Group = "h" },
		func(g *api.Graph) { g.Events[1].Due = -2 },
		func(g *api.Graph) { g.Events[1].Due = api.Never + 1 },
		func(g *api.Graph) { g.Relations[1].To = "c" },
		func(g *api.Graph) { g.Relations[1].Kind = 6 },
		func(g *api.Graph) { g.Relations[1] = g.Relations[0] },
		func(g *api.Graph) { g.Relations[0].Time = api.MaxAge + 1 },
		func(g *api.Graph) { g.Relations[2].Time = 1 },
		func(g *api.Graph) { g.Users[0].Name = "1" },
		func(g *api.Graph) { g.Users[0].Sub = "v" },
		func(g *api.Graph) { g.Users[0].Sub = "u" },
	} {
		g := parsed(t, s)
		turn(&g)
		if v := cert.Analyse(g); v != (cert.Verdict{Reason: 1}) {
			t.Errorf("%d: %v", i, v)
		}
	}
}

// crowd tells a text of 80 events in a group, the first 40 in a group h in it, the others in a group k.
func crowd() string {
	s := "group g; group h in g; group k in g;"
	for at := range 80 {
		s += "event e" + strconv.Itoa(at) + " in " + []string{"h", "k"}[at/40] + " role r;"
	}
	return s
}

// P8.1: a graph of more than 8000 ties is refused as one that may not be.
func TestTooManyTies(t *testing.T) {
	s := crowd() + "condition g g 5; milestone h k;"
	if f := read(t, s); len(f.Ties) != 8000 {
		t.Fatalf("%d", len(f.Ties))
	}
	accepts(t, s, 0)
	g := parsed(t, s+"exclude e5 e3;")
	if _, e := flat.Make(g); e != api.ErrMany {
		t.Fatalf("%d", e)
	}
	judges(t, g, cert.Verdict{Reason: 1})
}

// P8.1: an event that matters, and may be taken out, or isn't in at first; the least of them.
func TestMayGoOut(t *testing.T) {
	refuses(t, "event a role r excluded pending;", 2, 0)
	refuses(t, "event a role r; event b role r pending; exclude a b;", 2, 1)
	refuses(t, "event a role r pending; event b role r pending; exclude b b;", 2, 1)
	// It is pending, called for, or comes ahead by a condition or a milestone, of one or over others.
	refuses(t, "event a role r; event b role r; event c role r excluded; response b c;", 2, 2)
	refuses(t, "event a role r; event b role r pending; event c role r excluded; condition c b 0;", 2, 2)
	refuses(t, "event a role r; event b role r pending; event c role r excluded; milestone c b;", 2, 2)
	refuses(t, "event a role r excluded; event b role r pending; event c role r; milestone c b; condition a c 0;", 2, 0)
	// That it is taken in again, or was done, is nothing to it; nor is it that what takes it out isn't in.
	refuses(t, "event a role r excluded done pending; event b role r; include b a;", 2, 0)
	refuses(t, "event a role r pending; event b role r excluded; exclude b a;", 2, 0)
	// Of several the least, in whatever order ties stand.
	refuses(t, "event a role r; event b role r pending; event c role r pending; event d role r excluded pending; exclude a c; exclude a b;", 2, 1)
	refuses(t, "event a role r excluded; event b role r pending; event c role r excluded pending; exclude b b;", 2, 1)
	// What doesn't matter may go out.
	accepts(t, "event a role r excluded; event b role r pending; event c role r; exclude b c; exclude b a; condition b c 3;", 1)
	accepts(t, "event a role r pending; event b role r excluded; include b a; response b a; exclude a b;", 1)
	// By groups.
	refuses(t, "group g; event a role r pending; event b in g role r; event c in g role r; exclude a g; condition c a 1;", 2, 2)
}

// P8.1: an event that matters, and leads back to itself; the least of them.
func TestLeadsBack(t *testing.T) {
	for _, s := range []string{"condition b b 3;", "milestone b b;", "response b b;"} {
		refuses(t, "event a role r; event b role r pending; condition a b 2;"+s, 3, 1)
	}
	refuses(t, "event a role r; event b role r; response b b;", 3, 1)
	refuses(t, "event a role r pending; event b role r; event c role r; condition c b 0; milestone b c;condition c a 1;", 3, 1)
	refuses(t, "event a role r pending; event b role r; event c role r; response c b; condition c b 0; condition c a 1;", 3, 1)
	refuses(t, "event a role r; event b role r; event c role r; response a b; response b c; response c a;", 3, 0)
	refuses(t, "event a role r; event b role r; event c role r pending; event d role r; condition b c 1; milestone d b; response d c;", 3, 1)
	// What leads to a ring isn't in it; a ring of what doesn't matter is none.
	refuses(t, "event a role r pending; event b role r pending; event c role r; condition b a 2; condition c b 2; milestone b c;", 3, 1)
	accepts(t, "event a role r; event b role r; event c role r pending; condition a b 2; condition b a 2; milestone a a; condition c a 5;", 1)
	// Includes and excludes lead nowhere.
	accepts(t, "event a role r pending; event b role r; event c role r pending; include a c; include c a; include a a; exclude a b; exclude c b;", 2)
	// By groups: what is in the group is ahead of itself.
	refuses(t, "group g; event a role r; event b in g role r; event c in g role r pending; condition g c 2;", 3, 2)
	refuses(t, "group g; event a role r; event b in g role r; event c in g role r pending; condition c g 2;", 3, 2)
}

// P8.1: an event that matters, and whose role no user has; the least of them.
func TestHasNobody(t *testing.T) {
	refuses(t, "event a role z pending;", 4, 0)
	refuses(t, "event a role r pending; event b role z; event c role z pending; event d role y pending;", 4, 2)
	refuses(t, "event a role r pending; event b role z; event c role y; condition c a 2; response a b;", 4, 1)
	refuses(t, "event a role z; event b role r pending; event c role y; milestone c b;", 4, 2)
	// Each role that a user has is had, whoever it is, and whoever stands in.
	accepts(t, "event a role r pending; event b role q; event c role z; condition b a 3; response a c; user v roles; user w roles y z;", 6)
	refuses(t, "event a role z pending; user v roles y sub u; user w roles sub v;", 4, 0)
	refuses(t, "event a role u pending; event b role v; user v roles;", 4, 0)
	// What doesn't matter needs nobody.
	accepts(t, "event a role r pending; event b role z; condition a b 2;", 1)
	judges(t, api.Graph{Events: []api.Event{{Name: "a", Role: "r", In: true, Due: -1}}}, cert.Verdict{Ok: true})
	judges(t, api.Graph{Events: []api.Event{{Name: "a", Role: "r", In: true, Due: -1}, {Name: "b", Role: "r", In: true}}}, cert.Verdict{Reason: 4, At: 1})
	judges(t, api.Graph{Events: []api.Event{{Name: "b", Role: "r", In: true}}, Users: make([]api.User, 1)}, cert.Verdict{Reason: 1})
}

// P8.1: a bound of 100000 is accepted, one above isn't.
func TestBoundOfAccepted(t *testing.T) {
	s := "event a role r pending; event b role r; event c role r; condition b a 65536; condition c b "
	for time, want := range map[int]int{0: 65539, 34460: 99999, 34461: 100000} {
		accepts(t, s+strconv.Itoa(time)+";", want)
	}
	for _, time := range []int{34462, 34463, 65536} {
		refuses(t, s+strconv.Itoa(time)+";", 5, 0)
	}
	// At 0, though event 0 doesn't matter.
	refuses(t, "event e role r; event f role r;"+s+"65536;", 5, 0)
	// By how often events are done, without a delay: the events of a row call for all behind them.
	row := func(many int) string {
		var s strings.Builder
		for at := range many {
			s.WriteString("event e" + strconv.Itoa(at) + " role r")
			if at == 0 {
				s.WriteString(" pending")
			}
			s.WriteString(";")
			for from := range at {
				s.WriteString("response e" + strconv.Itoa(from) + " e" + strconv.Itoa(at) + ";")
			}
		}
		return s.String()
	}
	accepts(t, row(1), 1)
	accepts(t, row(10), 512)
	accepts(t, row(17), 65536)
	refuses(t, row(18), 5, 0)
	refuses(t, row(24), 5, 0)
}

// P8.1: where several reasons hold, the first of them is told, and its place.
func TestFirstReason(t *testing.T) {
	// Each wrong part is by itself, and stands behind those of later reasons.
	parts := []string{
		"event g role r pending; group g;",
		"event a role r excluded pending; event b role r;",
		"event c role r pending; event d role r; condition d c 1; milestone c d;",
		"event e role z pending;",
		"event f role r pending; event h role r; event i role r; condition h f 65536; condition i h 65536;",
	}
	lengths := []int{1, 2, 2, 1, 3}
	for set := range 1 << len(parts) {
		s, want, before := "", cert.Verdict{Ok: true}, 0
		for i := len(parts) - 1; i >= 0; i-- {
			if set>>i&1 == 0 {
				continue
			}
			s += parts[i]
			want = cert.Verdict{Reason: i + 1, At: before}
			if i == 0 || i == 4 {
				want.At = 0
			}
			before += lengths[i]
		}
		judges(t, lax(t, s), want)
	}
}

// lax tells the graph of a text, though its names may be there twice.
func lax(t *testing.T, s string) api.Graph {
	t.Helper()
	s, twice := strings.CutSuffix(s, "event g role r pending; group g;")
	g := parsed(t, s)
	if twice {
		g.Groups = append(g.Groups, api.Group{Name: "g"})
		g.Events = append(g.Events, api.Event{Name: "g", Role: "r", In: true, Due: 0})
	}
	return g
}

// P8.1: what is told of a graph is told of the ties that its groups make.
func TestAnalyseOfGroups(t *testing.T) {
	s := "group g; group h in g; event a role r; event b in g role r; event c in h role q; event d role q pending;"
	accepts(t, s+"condition g d 4;", 1+1+5)
	accepts(t, s+"condition a g 4; condition h d 2;", 3+5+1)
	accepts(t, s+"response d g; condition a g 4; condition a h 7;", 1+5+8+1)
	refuses(t, s+"condition g d 4; exclude a h;", 2, 2)
	refuses(t, s+"response d g; response g a; condition h a 1;", 3, 0)
}
