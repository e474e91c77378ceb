package mark_test

import (
	"math"
	"slices"
	"testing"

	"replevin/api"
	"replevin/flat"
	"replevin/mark"
)

// did tells the marking behind an event, and fails unless there is one, and the marking ahead of it stays as it was.
func did(t *testing.T, f flat.Flat, m []api.Mark, at int) []api.Mark {
	t.Helper()
	was := slices.Clone(m)
	n, e := mark.Do(f, m, at)
	if e != api.OK || len(n) != len(m) {
		t.Fatalf("%v, %v, %d: %v, %d", f.Ties, m, at, n, e)
	}
	if !slices.Equal(m, was) {
		t.Fatalf("%v, %d: changed to %v", was, at, m)
	}
	return n
}

// does fails unless event 0 leads from a marking to another one.
func does(t *testing.T, f flat.Flat, m []api.Mark, want ...api.Mark) {
	t.Helper()
	if n := did(t, f, m, 0); !slices.Equal(n, want) {
		t.Errorf("%v, %v: %v, not %v", f.Ties, m, n, want)
	}
}

// P5.2: the event's Age is 0, and it isn't pending; all others stay as they are.
func TestDoItself(t *testing.T) {
	for _, age := range []int{-1, 0, 1, api.MaxAge} {
		for _, due := range []int{-1, 0, 1, api.Never} {
			does(t, tied(1), []api.Mark{in(age, due)}, in(0, -1))
			does(t, tied(3), []api.Mark{in(age, due), out(age, due), in(age, due)}, in(0, -1), out(age, due), in(age, due))
		}
	}
	m := []api.Mark{in(4, 5), in(6, 7), in(8, 9)}
	for at := range m {
		want := slices.Clone(m)
		want[at] = in(0, -1)
		if n := did(t, tied(3), m, at); !slices.Equal(n, want) {
			t.Errorf("%d: %v", at, n)
		}
	}
}

// P5.2: a response makes pending, by its Time, but for what is due earlier.
func TestDoResponse(t *testing.T) {
	for _, c := range []struct{ due, time, want int }{
		{-1, 0, 0}, {-1, 3, 3}, {-1, api.Never - 1, api.Never - 1}, {-1, api.Never, api.Never},
		{3, 2, 2}, {3, 3, 3}, {3, 4, 3}, {3, api.Never, 3}, {3, 0, 0}, {0, 0, 0}, {0, 1, 0}, {0, api.Never, 0},
		{api.Never, 7, 7}, {api.Never, 0, 0}, {api.Never, api.Never, api.Never}, {api.Never, api.Never - 1, api.Never - 1}, {api.Never - 1, api.Never, api.Never - 1},
		// Times that no graph has.
		{-1, -1, 0}, {-1, math.MinInt, 0}, {5, -1, 0}, {0, -4, 0}, {api.Never, -1, 0},
		{-1, api.Never + 1, api.Never}, {-1, math.MaxInt, api.Never}, {5, api.Never + 1, 5}, {api.Never, math.MaxInt, api.Never},
	} {
		f := tied(3, response(0, 2, c.time))
		does(t, f, []api.Mark{in(-1, -1), in(-1, -1), in(4, c.due)}, in(0, -1), in(-1, -1), in(4, c.want))
		// What isn't in is called for, too: it is due when it comes in.
		does(t, f, []api.Mark{in(-1, -1), in(-1, -1), out(-1, c.due)}, in(0, -1), in(-1, -1), out(-1, c.want))
	}
}

// P5.2: of several responses the earliest holds, wherever it stands.
func TestDoResponses(t *testing.T) {
	for _, c := range [][3]int{{1, 5, 9}, {1, 9, 5}, {5, 1, 9}, {5, 9, 1}, {9, 1, 5}, {9, 5, 1}} {
		f := tied(3, response(0, 1, c[0]), response(0, 1, c[1]), response(0, 2, 4), response(0, 1, c[2]))
		does(t, f, []api.Mark{in(-1, -1), in(-1, -1), in(-1, -1)}, in(0, -1), in(-1, 1), in(-1, 4))
		does(t, f, []api.Mark{in(-1, -1), in(-1, 0), in(-1, 2)}, in(0, -1), in(-1, 0), in(-1, 2))
	}
}

// P5.2: an exclude takes out, an include in; Age and Due stay.
func TestDoExcludeAndInclude(t *testing.T) {
	m := []api.Mark{in(-1, -1), in(3, 4), out(5, 6), in(-1, -1), out(-1, -1)}
	does(t, tied(5, exclude(0, 1), exclude(0, 2)), m, in(0, -1), out(3, 4), out(5, 6), in(-1, -1), out(-1, -1))
	does(t, tied(5, include(0, 1), include(0, 2)), m, in(0, -1), in(3, 4), in(5, 6), in(-1, -1), out(-1, -1))
	does(t, tied(5, include(0, 4), exclude(0, 3)), m, in(0, -1), in(3, 4), out(5, 6), out(-1, -1), in(-1, -1))
	// Times that no graph has are nothing to these.
	odd := tied(5, flat.Tie{Kind: api.Include, To: 4, Time: 9}, flat.Tie{Kind: api.Exclude, To: 3, Time: -9})
	does(t, odd, m, in(0, -1), in(3, 4), out(5, 6), out(-1, -1), in(-1, -1))
}

// orders tells all orders of some ties.
func orders(ties []flat.Tie) [][]flat.Tie {
	if len(ties) == 0 {
		return [][]flat.Tie{nil}
	}
	var all [][]flat.Tie
	for i, first := range ties {
		for _, rest := range orders(slices.Delete(slices.Clone(ties), i, i+1)) {
			all = append(all, append([]flat.Tie{first}, rest...))
		}
	}
	return all
}

// P5.2: the event's own mark first, then responses, then excludes, then includes, in whatever order ties stand.
func TestDoOrder(t *testing.T) {
	for _, c := range []struct {
		ties    []flat.Tie
		m, want []api.Mark
	}{
		{[]flat.Tie{exclude(0, 1), include(0, 1)}, []api.Mark{in(-1, -1), in(-1, -1)}, []api.Mark{in(0, -1), in(-1, -1)}},
		{[]flat.Tie{exclude(0, 1), include(0, 1)}, []api.Mark{in(-1, -1), out(-1, -1)}, []api.Mark{in(0, -1), in(-1, -1)}},
		{[]flat.Tie{exclude(0, 1), response(0, 1, 3)}, []api.Mark{in(-1, -1), in(-1, 5)}, []api.Mark{in(0, -1), out(-1, 3)}},
		{[]flat.Tie{exclude(0, 1), response(0, 1, 3), include(0, 1), exclude(0, 1)}, []api.Mark{in(-1, -1), in(-1, 2)}, []api.Mark{in(0, -1), in(-1, 2)}},
		{[]flat.Tie{response(0, 0, 7)}, []api.Mark{in(4, 2)}, []api.Mark{in(0, 7)}},
		{[]flat.Tie{response(0, 0, api.Never)}, []api.Mark{in(4, 0)}, []api.Mark{in(0, api.Never)}},
		{[]flat.Tie{response(0, 0, 7), response(0, 0, 6)}, []api.Mark{in(4, 2)}, []api.Mark{in(0, 6)}},
		{[]flat.Tie{exclude(0, 0)}, []api.Mark{in(4, 2)}, []api.Mark{out(0, -1)}},
		{[]flat.Tie{exclude(0, 0), include(0, 0)}, []api.Mark{in(4, 2)}, []api.Mark{in(0, -1)}},
		{[]flat.Tie{exclude(0, 0), response(0, 0, 1)}, []api.Mark{in(4, 2)}, []api.Mark{out(0, 1)}},
		{[]flat.Tie{exclude(0, 0), response(0, 0, 1), include(0, 0), include(0, 0)}, []api.Mark{in(4, 2)}, []api.Mark{in(0, 1)}},
		// What itself is done takes out still calls for, and takes in, the others.
		{[]flat.Tie{exclude(0, 0), response(0, 1, 1), include(0, 1)}, []api.Mark{in(4, 2), out(-1, -1)}, []api.Mark{out(0, -1), in(-1, 1)}},
		// What holds up, or what comes from others, does nothing.
		{[]flat.Tie{condition(1, 0, 2), milestone(1, 0), condition(0, 1, 2), milestone(0, 1)}, []api.Mark{in(-1, 1), in(3, -1)}, []api.Mark{in(0, -1), in(3, -1)}},
		{[]flat.Tie{response(1, 0, 2), exclude(1, 0), include(1, 1), response(1, 1, 0)}, []api.Mark{in(-1, 1), out(-1, -1)}, []api.Mark{in(0, -1), out(-1, -1)}},
	} {
		for _, ties := range orders(c.ties) {
			does(t, tied(len(c.m), ties...), c.m, c.want...)
		}
	}
}

// P5.2: what is enabled is asked of the marking ahead of the event.
func TestDoAskedAhead(t *testing.T) {
	does(t, tied(2, exclude(0, 0), response(0, 1, 0), milestone(1, 0), exclude(0, 1)), fresh(2), out(0, -1), out(-1, 0))
	if n, e := mark.Do(tied(2, include(0, 0), milestone(0, 0)), []api.Mark{in(3, 4), in(-1, -1)}, 0); len(n) != 0 || e != api.ErrOff {
		t.Errorf("%v, %d", n, e)
	}
	if n, e := mark.Do(tied(1, include(0, 0)), []api.Mark{out(3, -1)}, 0); len(n) != 0 || e != api.ErrOff {
		t.Errorf("%v, %d", n, e)
	}
	if n, e := mark.Do(tied(1, condition(0, 0, 0)), fresh(1), 0); len(n) != 0 || e != api.ErrOff {
		t.Errorf("%v, %d", n, e)
	}
}

// P5.2: what leads to, or from, no event does nothing, and nor does a tie of a Kind that there isn't.
func TestDoOddTies(t *testing.T) {
	m := []api.Mark{in(2, 3), in(4, 5), out(6, 7)}
	want := []api.Mark{in(0, -1), in(4, 5), out(6, 7)}
	for _, no := range noPlaces(3) {
		does(t, tied(3, response(0, no, 0), exclude(0, no), include(0, no), condition(0, no, 0), milestone(0, no)), m, want...)
		does(t, tied(3, response(no, 1, 0), exclude(no, 0), include(no, 2), condition(no, 0, 0), milestone(no, 0)), m, want...)
		does(t, tied(3, response(no, no, 0), exclude(no, no), include(no, no), exclude(0, 1)), m, in(0, -1), out(4, 5), out(6, 7))
	}
	for _, kind := range []int{0, -1, -2, 6, 7, 10, math.MinInt, math.MaxInt} {
		does(t, tied(3, flat.Tie{Kind: kind, To: 0, Time: 1}, flat.Tie{Kind: kind, To: 1, Time: 1}, flat.Tie{Kind: kind, To: 2, Time: 1}), m, want...)
	}
}

// P5.2: the errors, and which of them comes first; beside one there is no marking.
func TestDoErrors(t *testing.T) {
	refuses := func(what string, f flat.Flat, m []api.Mark, at int, want api.Errno) {
		t.Helper()
		was := slices.Clone(m)
		if n, e := mark.Do(f, m, at); len(n) != 0 || e != want || !slices.Equal(m, was) {
			t.Errorf("%s, %d: %v, %d, not %d", what, at, n, e, want)
		}
	}
	f := tied(3, exclude(0, 0), response(0, 2, 1), condition(1, 0, 0))
	for what, m := range misfits() {
		for _, at := range append(noPlaces(3), 0, 1, 2) {
			refuses(what, f, m, at, api.ErrArg)
		}
	}
	for _, at := range noPlaces(3) {
		refuses("in", f, fresh(3), at, api.ErrRange)
		refuses("out", f, make([]api.Mark, 3), at, api.ErrRange)
	}
	for _, at := range append(noPlaces(0), 0) {
		refuses("no events", flat.Flat{}, nil, at, api.ErrRange)
		refuses("no events", flat.Flat{}, fresh(1), at, api.ErrArg)
	}
	for at := range 3 {
		refuses("out", f, make([]api.Mark, 3), at, api.ErrOff)
	}
	refuses("held up", f, fresh(3), 0, api.ErrOff)
}

// P5.2: neither the events' nor the groups' names are needed; a graph's groups are done as its events.
func TestDoOfGraph(t *testing.T) {
	f := read(t, "group g; group h in g; event a role r; event b in g role r excluded; event c in h role r due 2;"+
		"response a g 5; exclude a h; include a b; exclude g g; include c a;")
	m := mark.Start(f)
	m = did(t, f, m, 0)
	if !slices.Equal(m, []api.Mark{in(0, -1), in(-1, 5), out(-1, 2)}) {
		t.Fatalf("%v", m)
	}
	m = did(t, f, m, 1)
	if !slices.Equal(m, []api.Mark{in(0, -1), out(0, -1), out(-1, 2)}) {
		t.Fatalf("%v", m)
	}
	enables(t, f, m, 0)
}
