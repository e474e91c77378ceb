package cert_test

import (
	"math"
	"math/rand"
	"reflect"
	"slices"
	"strconv"
	"testing"
	"time"

	"replevin/api"
	"replevin/cert"
	"replevin/flat"
	"replevin/graph"
	"replevin/mark"
)

// sample tells a Flat and a marking of which each list has something, with room behind them, anew each time.
func sample() (flat.Flat, []api.Mark) {
	f := pending(tied(5, condition(3, 2, 1), milestone(0, 2), response(2, 1, 9), condition(4, 0, 6), exclude(1, 3), condition(3, 2, 1), include(2, 4)), 2)
	f.Events, f.Ties = slices.Grow(f.Events, 9), slices.Grow(f.Ties, 9)
	return f, slices.Grow(mark.Start(f), 9)
}

// sampleGraph tells a graph of which each list has something, with room behind them, anew each time.
func sampleGraph(t *testing.T) api.Graph {
	g := parsed(t, "group g; event a in g role r; event b role q pending; event c role z; condition g b 2; response a b 5; exclude c a;")
	g.Groups, g.Events, g.Relations = slices.Grow(g.Groups, 9), slices.Grow(g.Events, 9), slices.Grow(g.Relations, 9)
	g.Users[0].Roles = slices.Grow(g.Users[0].Roles, 9)
	return g
}

// scribble writes over a list, and over the room behind it.
func scribble[T any](l []T, other T) {
	l = l[:cap(l)]
	for i := range l {
		l[i] = other
	}
}

// answers tells all that is told of a Flat and a marking.
func answers(f flat.Flat, m []api.Mark) []any {
	l := []any{cert.Times(f), cert.Bound(f), cert.Calm(f)}
	at, is := cert.Next(f, m)
	l = append(l, at, is)
	for _, most := range []int{-1, 0, 1, 5, 99} {
		n, steps, e := cert.Discharge(f, m, most)
		l = append(l, n, steps, e)
	}
	return l
}

// overwrite writes over all lists of some answers.
func overwrite(l []any) {
	for _, v := range l {
		switch v := v.(type) {
		case []int:
			scribble(v, 77)
		case []api.Mark:
			scribble(v, out(7, 7))
		}
	}
}

// R3: what is handed in stays as it was, with the room behind its lists, whatever is asked of it, and whatever is written to what is told of it.
func TestArgumentStays(t *testing.T) {
	f, m := sample()
	wasF, wasM := sample()
	g, wasG := sampleGraph(t), sampleGraph(t)
	for range 2 {
		overwrite(answers(f, m))
		cert.Analyse(g)
		if !slices.Equal(f.Events[:14], wasF.Events[:14]) || !slices.Equal(f.Ties[:16], wasF.Ties[:16]) || !slices.Equal(m[:14], wasM[:14]) {
			t.Fatalf("%v, %v, not %v, %v", f, m, wasF, wasM)
		}
		if !graph.Same(g, wasG) || !slices.Equal(g.Events[:9], wasG.Events[:9]) || !slices.Equal(g.Relations[:9], wasG.Relations[:9]) || !slices.Equal(g.Users[0].Roles[:9], wasG.Users[0].Roles[:9]) {
			t.Fatalf("%v, not %v", g, wasG)
		}
	}
}

// R3: no answer shares anything with what was handed in, or with another answer.
func TestSharesNothing(t *testing.T) {
	f, m := sample()
	want := answers(sample())
	again := answers(f, m)
	overwrite(answers(f, m))
	scribble(f.Events, api.Event{Due: 9})
	scribble(f.Ties, calls(4, 0))
	scribble(m, out(7, 7))
	if !reflect.DeepEqual(again, want) {
		t.Errorf("%v, not %v", again, want)
	}
	// Of no step, and of none that there is, the marking is a new one, too.
	for _, f := range []flat.Flat{tied(3), pending(tied(3), 1), tied(201), tied(3, calls(0, 0))} {
		m := mark.Start(f)
		for _, most := range []int{-1, 0, 5} {
			n, _, _ := cert.Discharge(f, m, most)
			scribble(n, out(7, 7))
		}
		if !mark.Same(m, mark.Start(f)) {
			t.Errorf("%v: %v", f.Ties, brief(m))
		}
	}
}

// R4 and R5: the same call answers the same, whatever was called between.
func TestSameAgain(t *testing.T) {
	r := rand.New(rand.NewSource(45))
	for range 20 {
		f, g := chance(r), chanceGraph(r)
		m := mark.Start(f)
		was, v := answers(f, m), cert.Analyse(g)
		for range 30 {
			other := chance(r)
			answers(other, marking(r, len(other.Events)))
			cert.Analyse(chanceGraph(r))
			if !reflect.DeepEqual(answers(f, m), was) || cert.Analyse(g) != v {
				t.Fatalf("%v, %v", f, g)
			}
		}
	}
}

// soon fails unless a call ends in a time in which it could be made many times over.
func soon(t *testing.T, what string, call func()) {
	t.Helper()
	ended := make(chan struct{})
	go func() {
		call()
		close(ended)
	}()
	select {
	case <-ended:
	case <-time.After(30 * time.Second):
		t.Fatalf("%s: not soon", what)
	}
}

// R1: very many events have no order, or a ring, and are told soon.
func TestManyEvents(t *testing.T) {
	const many = 1 << 16
	f := pending(tied(many), 0)
	for at := range many - 1 {
		f.Ties = append(f.Ties, calls(at, at+1), condition(at+1, at, at), exclude(many-1, at))
	}
	none := make([]int, many)
	m := mark.Start(f)
	for _, more := range [][]flat.Tie{nil, {calls(many-1, 0)}} {
		f.Ties = append(f.Ties, more...)
		soon(t, "many events", func() {
			counts(t, f, none...)
			bounds(t, f, 0)
			calms(t, f, true)
			nexts(t, f, m, -2)
			discharges(t, f, m, 99, m, 0, api.OK)
		})
	}
}

// R1: very many ties, each again and again, and long delays.
func TestManyTies(t *testing.T) {
	const many = 200
	f := pending(tied(many), 0)
	r := rand.New(rand.NewSource(200))
	for i := range 1 << 18 {
		from, to := r.Intn(many), r.Intn(many)
		if from > to {
			f.Ties = append(f.Ties, condition(from, to, i%1000), milestone(from, to))
		} else if from < to {
			f.Ties = append(f.Ties, calls(from, to))
		}
	}
	soon(t, "ties", func() {
		bounds(t, f, 1000000)
		calms(t, f, true)
		if l := cert.Times(f); len(l) != many || slices.Max(l) != 1000000 {
			t.Errorf("%v", l)
		}
		m, steps, e := cert.Discharge(f, mark.Start(f), 50000)
		if len(m) != many || steps != 50000 || e != api.OK {
			t.Errorf("%d, %d", steps, e)
		}
	})
	// One tie a million times, and the longest wait of all.
	f = pending(tied(many, slices.Repeat([]flat.Tie{condition(1, 0, api.MaxAge+1), condition(1, 0, 3)}, 1<<17)...), 0)
	f.Events[0].Due = api.Never - 1
	soon(t, "a long wait", func() {
		m, steps, e := cert.Discharge(f, mark.Start(f), math.MaxInt)
		if len(m) != many || m[0].Due != 0 || steps != api.Never || e != api.ErrDue {
			t.Errorf("%d, %d", steps, e)
		}
	})
}

// R1: steps of which there are more than can be done: as many as may be.
func TestManySteps(t *testing.T) {
	f := doubling(5)
	for _, most := range []int{1, 1000, 1 << 17} {
		soon(t, "steps", func() {
			m, steps, e := cert.Discharge(f, mark.Start(f), most)
			if len(m) != 29 || steps != most || e != api.OK || mark.Accepting(f, m) {
				t.Errorf("%d, %d", steps, e)
			}
		})
	}
	// All of the events, and of the relations, that a graph may have.
	g := api.Graph{Users: []api.User{{Name: "u", Roles: []string{"r"}}}}
	for at := range 80 {
		g.Events = append(g.Events, api.Event{Name: "e" + strconv.Itoa(at), Role: "r", In: true, Due: api.Never})
		for from := max(at-4, 0); from < at && len(g.Relations) < 300; from++ {
			g.Relations = append(g.Relations, api.Relation{Kind: 1 + at%2, From: g.Events[[]int{at, from}[at%2]].Name, To: g.Events[[]int{from, at}[at%2]].Name})
		}
	}
	soon(t, "a graph", func() { judges(t, g, cert.Verdict{Reason: 5}) })
}
