package needs_test

import (
	"math"
	"slices"
	"testing"

	"replevin/api"
	"replevin/flat"
	"replevin/needs"
	"replevin/text"
)

func condition(from, to, time int) flat.Tie { return flat.Tie{Kind: 1, From: from, To: to, Time: time} }
func response(from, to int) flat.Tie        { return flat.Tie{Kind: 2, From: from, To: to, Time: 7} }
func include(from, to int) flat.Tie         { return flat.Tie{Kind: 3, From: from, To: to} }
func exclude(from, to int) flat.Tie         { return flat.Tie{Kind: 4, From: from, To: to} }
func milestone(from, to int) flat.Tie       { return flat.Tie{Kind: 5, From: from, To: to} }

// tied tells a Flat of so many events that are in and aren't pending, and these ties.
func tied(many int, ties ...flat.Tie) flat.Flat {
	return flat.Flat{Events: slices.Repeat([]api.Event{{In: true, Due: -1}}, many), Ties: ties}
}

// pending tells a Flat with these events pending.
func pending(f flat.Flat, places ...int) flat.Flat {
	for _, at := range places {
		f.Events[at].Due = 0
	}
	return f
}

// noPlaces tells what is the place of none of so many.
func noPlaces(many int) []int { return []int{-1, -2, math.MinInt, many, many + 1, math.MaxInt} }

// brief tells the beginning of a list, to be shown.
func brief[T any](l []T) []T { return l[:min(len(l), 99)] }

// read tells the Flat of a text's graph.
func read(t *testing.T, s string) flat.Flat {
	t.Helper()
	g, at, e := text.Parse(s)
	if e != api.OK {
		t.Fatalf("%q: %d, %d", s, at, e)
	}
	f, e := flat.Make(g)
	if e != api.OK {
		t.Fatalf("%q: %d", s, e)
	}
	return f
}

// tells fails unless these places are told.
func tells(t *testing.T, what string, f flat.Flat, ask func(flat.Flat) []int, want ...int) {
	t.Helper()
	if l := ask(f); !slices.Equal(l, want) {
		t.Errorf("%s of %v: %v, not %v", what, brief(f.Ties), brief(l), brief(want))
	}
}

func blocked(t *testing.T, f flat.Flat, at int, want ...int) {
	t.Helper()
	tells(t, "Blocks", f, func(f flat.Flat) []int { return needs.Blocks(f, at) }, want...)
}

func callsFor(t *testing.T, f flat.Flat, at int, want ...int) {
	t.Helper()
	tells(t, "Calls", f, func(f flat.Flat) []int { return needs.Calls(f, at) }, want...)
}

func called(t *testing.T, f flat.Flat, want ...int) {
	t.Helper()
	tells(t, "Called", f, needs.Called, want...)
}

func matters(t *testing.T, f flat.Flat, want ...int) {
	t.Helper()
	tells(t, "Matters", f, needs.Matters, want...)
}

func excluded(t *testing.T, f flat.Flat, want ...int) {
	t.Helper()
	tells(t, "Excluded", f, needs.Excluded, want...)
}

func delayed(t *testing.T, f flat.Flat, at, want int) {
	t.Helper()
	if d := needs.Delay(f, at); d != want {
		t.Errorf("Delay of %v, %d: %d, not %d", brief(f.Ties), at, d, want)
	}
}

// nets fails unless these are the ways, of as many points as there are events.
func nets(t *testing.T, f flat.Flat, want ...[]int) {
	t.Helper()
	if n := needs.Net(f); !slices.EqualFunc(n, want, slices.Equal[[]int]) {
		t.Errorf("Net of %v: %v, not %v", f.Ties, n, want)
	}
}

// nothing fails unless of a Flat nothing but its events is told, none of which hangs on any.
func nothing(t *testing.T, f flat.Flat) {
	t.Helper()
	for _, at := range append(noPlaces(len(f.Events)), 0, 1, 2) {
		blocked(t, f, at)
		callsFor(t, f, at)
		delayed(t, f, at, 0)
	}
	nets(t, f, make([][]int, len(f.Events))...)
	called(t, f)
	matters(t, f)
	excluded(t, f)
}

// P7.1: the chapter's example.
func TestExample(t *testing.T) {
	f := read(t, "event a role r; event b role r; event c role r; condition a b 0; response b c 5;")
	nets(t, f, nil, []int{0, 2}, nil)
	blocked(t, f, 1, 0)
	callsFor(t, f, 1, 2)
	called(t, f, 2)
	matters(t, f, 2)
	matters(t, pending(f, 1), 0, 1, 2)
}

// P7.1: without events there is nothing, without ties nothing but what the events tell.
func TestNothing(t *testing.T) {
	nothing(t, flat.Flat{})
	nothing(t, flat.Flat{Events: []api.Event{}, Ties: []flat.Tie{}})
	nothing(t, flat.Flat{Ties: []flat.Tie{condition(0, 0, 5), response(0, 0), exclude(0, 0), milestone(0, 1), condition(1, 0, 5)}})
	nothing(t, tied(3))
	f := flat.Flat{Events: []api.Event{{Due: -1}, {In: true, Due: 0}, {In: true, Due: -1}, {In: false, Due: api.Never}}}
	nets(t, f, nil, nil, nil, nil)
	called(t, f, 1, 3)
	matters(t, f, 1, 3)
	excluded(t, f, 0, 3)
}

// P7.1: what conditions and milestones come from, rising, each once.
func TestBlocks(t *testing.T) {
	f := tied(5, condition(4, 1, 3), milestone(2, 1), condition(0, 1, 0), condition(3, 0, 0), milestone(1, 4))
	blocked(t, f, 0, 3)
	blocked(t, f, 1, 0, 2, 4)
	blocked(t, f, 2)
	blocked(t, f, 3)
	blocked(t, f, 4, 1)
	// From one event a condition, a milestone, and the same again.
	f = tied(3, milestone(2, 1), condition(2, 1, 3), condition(0, 1, 3), condition(2, 1, 3), condition(2, 1, 9), milestone(2, 1))
	blocked(t, f, 1, 0, 2)
	blocked(t, f, 2)
	blocked(t, f, 0)
	// An event may block itself, by either.
	blocked(t, tied(2, condition(1, 1, 3)), 1, 1)
	blocked(t, tied(2, milestone(1, 1), condition(0, 1, 0)), 1, 0, 1)
}

// P7.1: where responses lead, rising, each once.
func TestCalls(t *testing.T) {
	f := tied(5, response(1, 4), response(1, 0), response(3, 1), response(1, 2), response(4, 4))
	callsFor(t, f, 0)
	callsFor(t, f, 1, 0, 2, 4)
	callsFor(t, f, 2)
	callsFor(t, f, 3, 1)
	callsFor(t, f, 4, 4)
	f = tied(3, response(0, 2), response(0, 1), response(0, 2), response(0, 0), response(0, 2))
	callsFor(t, f, 0, 0, 1, 2)
	// A response's Time is nothing to it.
	for _, time := range []int{math.MinInt, -1, 0, api.Never, math.MaxInt} {
		callsFor(t, tied(2, flat.Tie{Kind: api.Response, From: 1, To: 0, Time: time}), 1, 0)
	}
}

// P7.1: a response doesn't block, and what blocks doesn't call.
func TestOneWay(t *testing.T) {
	f := tied(3, response(0, 1))
	blocked(t, f, 0)
	blocked(t, f, 1)
	callsFor(t, f, 1)
	nets(t, f, []int{1}, nil, nil)
	for _, tie := range []flat.Tie{condition(0, 1, 4), milestone(0, 1)} {
		f := tied(3, tie)
		callsFor(t, f, 0)
		callsFor(t, f, 1)
		blocked(t, f, 0)
		called(t, f)
		nets(t, f, nil, []int{0}, nil)
	}
}

// P7.1: other ties neither block nor call, nor delay; and nothing but an exclude excludes.
func TestOtherKinds(t *testing.T) {
	for _, kind := range []int{api.Include, api.Exclude, 0, -1, 6, math.MinInt, math.MaxInt} {
		f := tied(3, flat.Tie{Kind: kind, From: 0, To: 1, Time: 5}, flat.Tie{Kind: kind, From: 1, To: 2, Time: 5}, flat.Tie{Kind: kind, From: 2, To: 2})
		for at := range 3 {
			blocked(t, f, at)
			callsFor(t, f, at)
			delayed(t, f, at, 0)
		}
		nets(t, f, nil, nil, nil)
		called(t, f)
		matters(t, f)
		matters(t, pending(f, 0), 0)
		if kind != api.Exclude {
			excluded(t, f)
		}
	}
}

// P7.1: what leads to, or from, no event is no tie.
func TestTiesOfNoEvent(t *testing.T) {
	for _, no := range noPlaces(3) {
		for kind := range 7 {
			nothing(t, tied(3,
				flat.Tie{Kind: kind, From: no, To: 1, Time: 5}, flat.Tie{Kind: kind, From: 1, To: no, Time: 5},
				flat.Tie{Kind: kind, From: no, To: no, Time: 5}))
		}
		f := tied(3, condition(no, 1, 9), condition(2, 1, 4), milestone(1, no), response(1, no), response(1, 0), response(no, 2), exclude(no, 1), exclude(2, no), exclude(1, 0))
		blocked(t, f, 1, 2)
		callsFor(t, f, 1, 0)
		delayed(t, f, 1, 4)
		nets(t, f, nil, []int{0, 2}, nil)
		called(t, f, 0)
		excluded(t, f, 0)
	}
}

// P7.1: of what is no event, and of one that no ties name, there is nothing.
func TestOfNoEvent(t *testing.T) {
	f := tied(3, condition(0, 1, 5), milestone(1, 1), response(1, 0), response(0, 1), condition(1, 0, 4))
	for _, no := range append(noPlaces(3), 2) {
		blocked(t, f, no)
		callsFor(t, f, no)
		delayed(t, f, no, 0)
	}
	for _, no := range noPlaces(3) {
		f := tied(3, condition(0, no, 5), milestone(1, no), response(no, 0), response(no, 1), condition(no, no, 4))
		blocked(t, f, no)
		callsFor(t, f, no)
		delayed(t, f, no, 0)
	}
}

// P7.1: what blocks an event and what it may call for, rising, each once, of as many points as events.
func TestNet(t *testing.T) {
	f := tied(5, response(2, 4), condition(3, 2, 1), milestone(0, 2), response(2, 1), condition(4, 0, 0))
	nets(t, f, []int{4}, nil, []int{0, 1, 3, 4}, nil, nil)
	// One that both blocks an event and may be called for by it stands once.
	f = tied(3, response(1, 2), condition(2, 1, 5), milestone(2, 1), response(1, 0), response(1, 2), condition(2, 1, 5))
	nets(t, f, nil, []int{0, 2}, nil)
	// A tie of an event to itself, of each kind.
	for _, tie := range []flat.Tie{condition(1, 1, 2), milestone(1, 1), response(1, 1)} {
		nets(t, tied(3, tie), nil, []int{1}, nil)
		nets(t, tied(3, tie, response(1, 2), tie, condition(0, 1, 0)), nil, []int{0, 1, 2}, nil)
	}
	// A ring of it.
	nets(t, tied(3, response(0, 1), response(1, 2), condition(0, 2, 0)), []int{1}, []int{2}, []int{0})
}

// P7.1: what is pending at first, and what a response leads to, each once.
func TestCalled(t *testing.T) {
	f := pending(tied(6, response(0, 4), response(5, 1), response(2, 4), condition(3, 2, 0), milestone(0, 2), include(0, 3), exclude(0, 3)), 5, 1)
	called(t, f, 1, 4, 5)
	called(t, pending(tied(3), 1), 1)
	called(t, tied(3, response(1, 2)), 2)
	called(t, pending(tied(3, response(1, 2)), 2), 2)
	called(t, tied(3, response(2, 2)), 2)
	called(t, pending(tied(3, response(1, 2), response(0, 2)), 0, 2), 0, 2)
}

// P7.1: an event is pending by its Due alone, whether it is in, was done, or not.
func TestPending(t *testing.T) {
	for due, want := range map[int][]int{math.MinInt: nil, -2: nil, -1: nil, 0: {1}, 1: {1}, api.Never: {1}, math.MaxInt: {1}} {
		for _, v := range []api.Event{{}, {In: true}, {Done: true}, {In: true, Done: true}} {
			f := tied(3)
			f.Events[1] = v
			f.Events[1].Due = due
			called(t, f, want...)
			matters(t, f, want...)
		}
	}
}

// P7.1: what may be called for, and all to which it leads over others, but nothing else.
func TestMatters(t *testing.T) {
	// 1 is pending; 2 blocks it, 4 is called for by it, 5 blocks that; 0 and 3 hang on these, and on nobody's asking.
	ties := []flat.Tie{condition(2, 1, 3), response(1, 4), milestone(5, 4), condition(1, 0, 0), condition(4, 3, 0), milestone(3, 0)}
	f := pending(tied(6, ties...), 1)
	called(t, f, 1, 4)
	matters(t, f, 1, 2, 4, 5)
	// Nothing pending: a response leads to 4 alone.
	matters(t, tied(6, ties...), 4, 5)
	// A long way, down and up again.
	f = pending(tied(6, condition(0, 5, 0), milestone(4, 0), response(4, 1), condition(3, 1, 0)), 5)
	matters(t, f, 0, 1, 3, 4, 5)
	// What is called for and leads nowhere matters; so does what is called for by what doesn't, and what is out.
	matters(t, pending(tied(3), 2), 2)
	matters(t, tied(3, response(2, 1)), 1)
	f = pending(tied(3, condition(0, 1, 0)), 1)
	f.Events[0].In, f.Events[1].In = false, false
	matters(t, f, 0, 1)
	// An include, or an exclude, doesn't let it matter.
	matters(t, pending(tied(4, include(1, 0), exclude(1, 2), include(3, 1), exclude(0, 1)), 1), 1)
}

// P7.1: what matters, where the net has rings.
func TestMattersWithRings(t *testing.T) {
	ring := []flat.Tie{condition(1, 0, 0), milestone(2, 1), condition(0, 2, 0)}
	for at := range 3 {
		matters(t, pending(tied(5, ring...), at), 0, 1, 2)
	}
	matters(t, tied(5, ring...))
	matters(t, pending(tied(5, ring...), 3), 3)
	// Into a ring, out of it, and past one that hangs on it.
	f := pending(tied(6, append(ring, condition(1, 4, 0), milestone(3, 2), condition(0, 5, 0))...), 4)
	matters(t, f, 0, 1, 2, 3, 4)
	matters(t, pending(tied(3, condition(1, 1, 0), condition(1, 0, 0)), 0), 0, 1)
	matters(t, tied(3, response(1, 1), milestone(1, 1)), 1)
	matters(t, pending(tied(3, condition(1, 1, 0), condition(1, 0, 0)), 2), 2)
	// Each calls for the next one: all are called for, pending or not.
	matters(t, tied(4, response(0, 1), response(1, 2), response(2, 0)), 0, 1, 2)
}

// P7.1: to which an exclude leads, or what isn't in at first.
func TestExcluded(t *testing.T) {
	f := tied(6, exclude(1, 4), exclude(3, 2), exclude(0, 4), exclude(2, 2), include(1, 5), include(0, 4), condition(1, 3, 0))
	excluded(t, f, 2, 4)
	f.Events[3].In = false
	excluded(t, f, 2, 3, 4)
	// One that is both stands once; that an include takes it in again is nothing to it.
	f.Events[4].In = false
	excluded(t, f, 2, 3, 4)
	f = tied(3, include(0, 1))
	f.Events[1].In = false
	excluded(t, f, 1)
	// Of what is out an exclude leads on all the same.
	f = tied(3, exclude(1, 0))
	f.Events[1].In = false
	excluded(t, f, 0, 1)
}

// P7.1: the greatest Time of a condition that leads to it, 0 without one.
func TestDelay(t *testing.T) {
	f := tied(4, condition(0, 1, 3), condition(2, 1, 8), condition(3, 1, 5), condition(1, 2, 0), condition(1, 3, 20))
	delayed(t, f, 0, 0)
	delayed(t, f, 1, 8)
	delayed(t, f, 2, 0)
	delayed(t, f, 3, 20)
	delayed(t, tied(2, condition(0, 1, 9), condition(0, 1, 2)), 1, 9)
	delayed(t, tied(2, condition(0, 1, 2), condition(0, 1, 9)), 1, 9)
	delayed(t, tied(2, condition(1, 1, 4)), 1, 4)
	delayed(t, tied(2, condition(0, 1, api.MaxAge)), 1, api.MaxAge)
	delayed(t, tied(2, condition(0, 1, math.MaxInt)), 1, math.MaxInt)
	// A Time below 0 counts as 0, beside another one or not.
	for _, time := range []int{-1, -5, math.MinInt} {
		delayed(t, tied(2, condition(0, 1, time)), 1, 0)
		delayed(t, tied(2, condition(0, 1, time), condition(1, 1, 2)), 1, 2)
		delayed(t, tied(2, condition(0, 1, 0), condition(1, 1, time)), 1, 0)
	}
	// What is no condition counts nothing, whatever its Time is.
	for _, kind := range []int{0, -1, api.Response, api.Include, api.Exclude, api.Milestone, 6} {
		delayed(t, tied(2, flat.Tie{Kind: kind, From: 0, To: 1, Time: 9}), 1, 0)
		delayed(t, tied(2, condition(0, 1, 3), flat.Tie{Kind: kind, From: 0, To: 1, Time: 9}), 1, 3)
	}
}
