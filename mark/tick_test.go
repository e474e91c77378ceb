package mark_test

import (
	"slices"
	"testing"

	"replevin/api"
	"replevin/flat"
	"replevin/mark"
)

// ticked tells the marking behind a tick, and fails unless there is one, and the marking ahead of it stays as it was.
func ticked(t *testing.T, f flat.Flat, m []api.Mark) []api.Mark {
	t.Helper()
	was := slices.Clone(m)
	n, e := mark.Tick(f, m)
	if e != api.OK || len(n) != len(m) {
		t.Fatalf("%v: %v, %d", m, n, e)
	}
	if !slices.Equal(m, was) {
		t.Fatalf("%v: changed to %v", was, m)
	}
	return n
}

// P5.2: what a tick does to a mark.
func TestTick(t *testing.T) {
	for _, c := range []struct{ ahead, behind api.Mark }{
		{in(-1, -1), in(-1, -1)}, {in(0, -1), in(1, -1)}, {in(41, -1), in(42, -1)},
		{in(api.MaxAge-1, -1), in(api.MaxAge, -1)}, {in(api.MaxAge, -1), in(api.MaxAge, -1)},
		{in(-1, 1), in(-1, 0)}, {in(-1, 2), in(-1, 1)}, {in(3, api.Never-1), in(4, api.Never-2)}, {in(-1, api.Never), in(-1, api.Never)},
		{in(api.MaxAge, 9), in(api.MaxAge, 8)}, {in(0, api.Never), in(1, api.Never)},
		// Of what isn't in the Age grows, too, but time to its Due stands still.
		{out(-1, -1), out(-1, -1)}, {out(0, -1), out(1, -1)}, {out(api.MaxAge-1, 1), out(api.MaxAge, 1)}, {out(api.MaxAge, 0), out(api.MaxAge, 0)},
		{out(-1, 0), out(-1, 0)}, {out(-1, 1), out(-1, 1)}, {out(5, 7), out(6, 7)}, {out(-1, api.Never), out(-1, api.Never)}, {out(-1, api.Never-1), out(-1, api.Never-1)},
	} {
		if n := ticked(t, tied(1), []api.Mark{c.ahead}); n[0] != c.behind {
			t.Errorf("%v: %v, not %v", c.ahead, n[0], c.behind)
		}
		m := []api.Mark{in(0, 3), c.ahead, out(2, 0), c.ahead}
		if n := ticked(t, tied(4), m); !slices.Equal(n, []api.Mark{in(1, 2), c.behind, out(3, 0), c.behind}) {
			t.Errorf("%v: %v", m, n)
		}
	}
	if n, e := mark.Tick(flat.Flat{}, nil); len(n) != 0 || e != api.OK {
		t.Errorf("nothing: %v, %d", n, e)
	}
}

// P5.2: ties are nothing to a tick, whatever they are.
func TestTickOfTies(t *testing.T) {
	f := tied(2, response(0, 1, 0), exclude(0, 0), include(1, 1), milestone(0, 1), condition(1, 1, 9), flat.Tie{Kind: 8, From: 7, To: -7})
	if n := ticked(t, f, []api.Mark{in(0, 4), out(0, 4)}); !slices.Equal(n, []api.Mark{in(1, 3), out(1, 4)}) {
		t.Errorf("%v", n)
	}
}

// P5.2: ErrArg, then ErrDue; beside one there is no marking, and the marking ahead stays.
func TestTickErrors(t *testing.T) {
	refuses := func(what string, m []api.Mark, want api.Errno) {
		t.Helper()
		was := slices.Clone(m)
		if n, e := mark.Tick(tied(3), m); len(n) != 0 || e != want || !slices.Equal(m, was) {
			t.Errorf("%s: %v, %d, not %d", what, n, e, want)
		}
	}
	for what, m := range misfits() {
		refuses(what, m, api.ErrArg)
		if len(m) > 0 {
			// Something is due, too.
			m[len(m)-1].In, m[len(m)-1].Due = true, 0
			if !mark.Fits(tied(3), m) {
				refuses(what+", due", m, api.ErrArg)
			}
		}
	}
	for at := range 3 {
		m := []api.Mark{in(-1, 5), out(-1, 0), in(2, api.Never)}
		m[at] = in(7, 0)
		refuses("due", m, api.ErrDue)
		m[at].In = false
		ticked(t, tied(3), m)
		m[at].In, m[at].Due = true, 1
		n := ticked(t, tied(3), m)
		refuses("due behind a tick", n, api.ErrDue)
	}
}

// P5.3: how many ticks may come.
func TestSlack(t *testing.T) {
	for _, c := range []struct {
		m     []api.Mark
		slack int
	}{
		{fresh(3), api.Never},
		{[]api.Mark{in(-1, -1), in(-1, api.Never), in(-1, -1)}, api.Never},
		{[]api.Mark{in(-1, api.Never), in(-1, api.Never-1), in(-1, -1)}, api.Never - 1},
		{[]api.Mark{in(-1, 4), in(-1, 3), in(-1, 5)}, 3},
		{[]api.Mark{in(-1, 3), in(-1, 4), in(-1, 5)}, 3},
		{[]api.Mark{in(-1, 5), in(-1, 4), in(-1, 3)}, 3},
		{[]api.Mark{in(-1, 5), in(-1, 0), in(-1, 3)}, 0},
		{[]api.Mark{in(-1, 5), out(-1, 0), out(-1, 3)}, 5},
		{[]api.Mark{out(-1, 5), out(-1, 0), out(-1, 3)}, api.Never},
		{[]api.Mark{in(0, -1), out(9, 0), in(api.MaxAge, 1)}, 1},
	} {
		f := tied(3, response(0, 1, 0), exclude(2, 2))
		if n := mark.Slack(f, c.m); n != c.slack {
			t.Errorf("%v: %d, not %d", c.m, n, c.slack)
		}
		if c.slack > 9 {
			continue
		}
		n := c.m
		for range c.slack {
			n = ticked(t, f, n)
		}
		if l, e := mark.Tick(f, n); len(l) != 0 || e != api.ErrDue {
			t.Errorf("%v: %v, %d", c.m, l, e)
		}
	}
	if n := mark.Slack(flat.Flat{}, nil); n != api.Never {
		t.Errorf("nothing: %d", n)
	}
	for what, m := range misfits() {
		if n := mark.Slack(tied(3), m); n != -1 {
			t.Errorf("%s: %d", what, n)
		}
	}
}

// P5.3: what is accepting has no event in and pending.
func TestAccepting(t *testing.T) {
	for _, due := range []int{0, 1, api.Never - 1, api.Never} {
		for at := range 3 {
			m := fresh(3)
			m[at].Due = due
			if mark.Accepting(tied(3), m) {
				t.Errorf("%v", m)
			}
			m[at].In = false
			if !mark.Accepting(tied(3), m) {
				t.Errorf("%v", m)
			}
		}
	}
	for _, m := range [][]api.Mark{fresh(3), {in(0, -1), in(api.MaxAge, -1), out(-1, 0)}, {out(-1, 0), out(-1, 5), out(4, api.Never)}} {
		if !mark.Accepting(tied(3, response(0, 1, 0), condition(0, 0, 1)), m) {
			t.Errorf("%v", m)
		}
	}
	if !mark.Accepting(flat.Flat{}, nil) {
		t.Error("nothing")
	}
	for what, m := range misfits() {
		if mark.Accepting(tied(3), m) {
			t.Error(what)
		}
	}
}

// P5.2 and P5.3: five ticks may come, no sixth; what is taken out is due no more, till it is in again.
func TestTicksOfGraph(t *testing.T) {
	f := read(t, "event a role r; event c role r; event d role r; event e role r; response a c 5; exclude d c; include e c;")
	m := did(t, f, mark.Start(f), 0)
	for left := 5; left > 0; left-- {
		if n := mark.Slack(f, m); n != left || mark.Accepting(f, m) {
			t.Fatalf("%d, not %d", n, left)
		}
		m = ticked(t, f, m)
	}
	if n, e := mark.Tick(f, m); len(n) != 0 || e != api.ErrDue {
		t.Fatalf("%v, %d", n, e)
	}
	m = did(t, f, m, 2)
	if mark.Slack(f, m) != api.Never || !mark.Accepting(f, m) {
		t.Fatalf("%v", m)
	}
	m = ticked(t, f, ticked(t, f, m))
	m = did(t, f, m, 3)
	if n, e := mark.Tick(f, m); len(n) != 0 || e != api.ErrDue || mark.Slack(f, m) != 0 {
		t.Fatalf("%v, %d", n, e)
	}
	m = did(t, f, m, 1)
	if !slices.Equal(m, []api.Mark{in(7, -1), in(0, -1), in(2, -1), in(0, -1)}) || !mark.Accepting(f, m) {
		t.Errorf("%v", m)
	}
}
