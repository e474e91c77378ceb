package cert_test

import (
	"math"
	"math/rand"
	"slices"
	"strconv"
	"testing"

	"replevin/api"
	"replevin/cert"
	"replevin/flat"
	"replevin/mark"
)

// calmed tells a graph of which nothing is due sooner than its bound; most of what there is is due just then.
func calmed(r *rand.Rand, g api.Graph, bound int) api.Graph {
	due := func() int { return []int{bound, bound, bound + r.Intn(5), api.Never}[r.Intn(4)] }
	for i, v := range g.Events {
		if v.Due >= 0 {
			g.Events[i].Due = due()
		}
	}
	for i, v := range g.Relations {
		if v.Kind == api.Response {
			g.Relations[i].Time = due()
		}
	}
	return g
}

// chanceGraph tells a graph of some events in groups; but for one in a few, what hangs on another one has the greater place.
func chanceGraph(r *rand.Rand) api.Graph {
	g := api.Graph{Groups: []api.Group{{Name: "g"}, {Name: "h", Parent: "g"}}, Users: []api.User{{Name: "u", Roles: []string{"r", "q"}}, {Name: "v", Roles: []string{"p"}}}}
	many := r.Intn(12)
	for at := range many {
		v := api.Event{Name: "e" + strconv.Itoa(at), Role: "rqp"[at%3:][:1], In: r.Intn(30) > 0, Done: r.Intn(6) == 0, Due: max(r.Intn(4)-3, -1)}
		// Groups are of neighbours, so that relations to them may make no ring.
		if at == 4 || at == 5 {
			v.Group = []string{"g", "h"}[at-4]
		}
		g.Events = append(g.Events, v)
	}
	for range r.Intn(40) * min(many, 1) {
		kind, from, to := 1+r.Intn(5), r.Intn(many), r.Intn(many)
		if from == to && r.Intn(50) > 0 {
			continue
		}
		if kind == api.Exclude && r.Intn(4) > 0 {
			kind = api.Include
		}
		if (from > to) != (kind != api.Response) && r.Intn(99) > 0 {
			from, to = to, from
		}
		rel := api.Relation{Kind: kind, From: placed(g, r, from), To: placed(g, r, to)}
		if kind == api.Condition {
			rel.Time = r.Intn(7)
		}
		if !slices.ContainsFunc(g.Relations, func(o api.Relation) bool {
			return o.Kind == rel.Kind && o.From == rel.From && o.To == rel.To
		}) {
			g.Relations = append(g.Relations, rel)
		}
	}
	if r.Intn(20) == 0 {
		g.Users = g.Users[:1]
	}
	return g
}

// placed tells an event's name, or its group's.
func placed(g api.Graph, r *rand.Rand, at int) string {
	if v := g.Events[at]; v.Group != "" && r.Intn(4) == 0 {
		return v.Group
	}
	return g.Events[at].Name
}

// P8.3: what is accepted, and calm, is discharged within the bound, from the first marking on: then nothing is pending.
func TestAcceptedIsDischarged(t *testing.T) {
	r := rand.New(rand.NewSource(83))
	var accepted, whole, long int
	reasons := map[int]int{}
	for range 12000 {
		g := chanceGraph(r)
		v := cert.Analyse(g)
		reasons[v.Reason]++
		if !v.Ok {
			continue
		}
		g = calmed(r, g, v.Bound)
		f, e := flat.Make(g)
		if e != api.OK || !cert.Calm(f) || cert.Bound(f) != v.Bound || cert.Analyse(g) != v {
			t.Fatalf("%v: %d, %v", g, e, v)
		}
		first := mark.Start(f)
		m, steps, e := cert.Discharge(f, first, v.Bound)
		if e != api.OK || !mark.Accepting(f, m) {
			t.Fatalf("%v: %v, %d, %d", g, m, steps, e)
		}
		if at, is := cert.Next(f, m); at != -1 || is {
			t.Fatalf("%v: %d", g, at)
		}
		// However often more steps may be done, there are none.
		discharges(t, f, first, math.MaxInt, m, steps, api.OK)
		accepted++
		if v.Bound > 0 && steps == v.Bound {
			whole++
		}
		if steps > 12 {
			long++
		}
	}
	if accepted < 6000 || whole < 2000 || long < 200 || reasons[2] < 2000 || reasons[3] < 500 || reasons[4] < 120 || reasons[1] > 0 {
		t.Errorf("%d, %d, %d, %v", accepted, whole, long, reasons)
	}
}

// P8.3: a graph that is well formed, staffed, of which nothing that matters may go out, and in whose net nothing that matters leads back to itself, is accepted, but for its bound; any other isn't.
func TestWhatIsAccepted(t *testing.T) {
	r := rand.New(rand.NewSource(84))
	for range 10000 {
		g := chanceGraph(r)
		if r.Intn(30) == 0 {
			g.Users = append(g.Users, api.User{Name: "u"})
		}
		judges(t, g, slowVerdict(g))
		if t.Failed() {
			t.Fatalf("%v", g)
		}
	}
}

// slowVerdict tells, word by word, the verdict of a graph of which no bound is too great.
func slowVerdict(g api.Graph) cert.Verdict {
	f, e := flat.Make(g)
	if e != api.OK {
		return cert.Verdict{Reason: 1}
	}
	matters := slowMatters(f)
	for reason := 2; reason < 5; reason++ {
		for at, v := range f.Events {
			isWrong := !v.In
			switch reason {
			case 2:
				isWrong = isWrong || slices.ContainsFunc(f.Ties, func(t flat.Tie) bool { return t.Kind == 4 && t.To == at })
			case 3:
				isWrong = comesTo(f, at, at, len(f.Events))
			case 4:
				isWrong = v.Role == "p" && len(g.Users) < 2
			}
			if isWrong && matters[at] {
				return cert.Verdict{Reason: reason, At: at}
			}
		}
	}
	bound, _ := slowBound(f)
	return cert.Verdict{Ok: true, Bound: bound}
}

// comesTo tells whether one event leads to another one over so many ways at most.
func comesTo(f flat.Flat, from, to, ways int) bool {
	front := []int{from}
	for range ways {
		var next []int
		for at := range f.Events {
			if slices.ContainsFunc(front, func(from int) bool { return leads(f, from, at) }) {
				next = append(next, at)
			}
		}
		if slices.Contains(next, to) {
			return true
		}
		front = next
	}
	return false
}
