package cert_test

import (
	"math"
	"slices"
	"testing"

	"replevin/api"
	"replevin/cert"
	"replevin/flat"
	"replevin/text"
)

func condition(from, to, time int) flat.Tie { return flat.Tie{Kind: 1, From: from, To: to, Time: time} }
func response(from, to, time int) flat.Tie  { return flat.Tie{Kind: 2, From: from, To: to, Time: time} }
func include(from, to int) flat.Tie         { return flat.Tie{Kind: 3, From: from, To: to} }
func exclude(from, to int) flat.Tie         { return flat.Tie{Kind: 4, From: from, To: to} }
func milestone(from, to int) flat.Tie       { return flat.Tie{Kind: 5, From: from, To: to} }

// calls tells a response that hurries nothing.
func calls(from, to int) flat.Tie { return response(from, to, api.Never) }

// tied tells a Flat of so many events that are in and aren't pending, and these ties.
func tied(many int, ties ...flat.Tie) flat.Flat {
	return flat.Flat{Events: slices.Repeat([]api.Event{{In: true, Due: -1}}, many), Ties: ties}
}

// pending tells a Flat with these events pending, for ever.
func pending(f flat.Flat, places ...int) flat.Flat {
	for _, at := range places {
		f.Events[at].Due = api.Never
	}
	return f
}

// noPlaces tells what is the place of none of so many.
func noPlaces(many int) []int { return []int{-1, -2, math.MinInt, many, many + 1, math.MaxInt} }

// brief tells the beginning of a list, to be shown.
func brief[T any](l []T) []T { return l[:min(len(l), 99)] }

// parsed tells the graph of a text; a user u has the roles r and q.
func parsed(t *testing.T, s string) api.Graph {
	t.Helper()
	g, at, e := text.Parse(s + "user u roles r q;")
	if e != api.OK {
		t.Fatalf("%q: %d, %d", s, at, e)
	}
	return g
}

// read tells the Flat of a text's graph.
func read(t *testing.T, s string) flat.Flat {
	t.Helper()
	f, e := flat.Make(parsed(t, s))
	if e != api.OK {
		t.Fatalf("%q: %d", s, e)
	}
	return f
}

// counts fails unless events are done so often at most.
func counts(t *testing.T, f flat.Flat, want ...int) {
	t.Helper()
	if l := cert.Times(f); !slices.Equal(l, want) {
		t.Errorf("Times of %v: %v, not %v", brief(f.Ties), brief(l), brief(want))
	}
}

// bounds fails unless there are so many steps at most.
func bounds(t *testing.T, f flat.Flat, want int) {
	t.Helper()
	if b := cert.Bound(f); b != want {
		t.Errorf("Bound of %v: %d, not %d", brief(f.Ties), b, want)
	}
}

// calms fails unless a Flat is calm, or isn't.
func calms(t *testing.T, f flat.Flat, want bool) {
	t.Helper()
	if cert.Calm(f) != want {
		t.Errorf("Calm of %v, %v: not %v", brief(f.Events), brief(f.Ties), want)
	}
}

// P8.1: the chapter's example.
func TestExample(t *testing.T) {
	s := "event a role r; event b role r pending; condition a b 2;"
	counts(t, read(t, s), 1, 1)
	bounds(t, read(t, s), 4)
	calms(t, read(t, s), true)
	judges(t, parsed(t, s), cert.Verdict{Ok: true, Bound: 4})
}

// P8.1: without events there is nothing; without ties what is pending is done once.
func TestNothing(t *testing.T) {
	for _, f := range []flat.Flat{
		{}, {Events: []api.Event{}, Ties: []flat.Tie{}},
		{Ties: []flat.Tie{condition(0, 0, 5), response(0, 0, 0), exclude(0, 0), milestone(0, 1), condition(1, 0, 5)}},
	} {
		counts(t, f)
		bounds(t, f, 0)
		calms(t, f, true)
	}
	counts(t, tied(3), 0, 0, 0)
	bounds(t, tied(3), 0)
	calms(t, tied(3), true)
	counts(t, pending(tied(4), 1, 3), 0, 1, 0, 1)
	bounds(t, pending(tied(4), 1, 3), 2)
	judges(t, api.Graph{}, cert.Verdict{Ok: true})
}

// P8.1: what is pending at first is so by its Due alone, whether it is in, was done, or not.
func TestTimesOfPending(t *testing.T) {
	for due, want := range map[int]int{math.MinInt: 0, -2: 0, -1: 0, 0: 1, 1: 1, api.Never: 1, math.MaxInt: 1} {
		for _, v := range []api.Event{{}, {In: true}, {Done: true}, {In: true, Done: true}} {
			f := tied(3)
			f.Events[1] = v
			f.Events[1].Due = due
			counts(t, f, 0, want, 0)
			bounds(t, f, want)
		}
	}
}

// P8.1: what comes ahead of an event that matters by a condition is done once for it, however many these are.
func TestTimesOfConditions(t *testing.T) {
	counts(t, pending(tied(3, condition(0, 1, 0)), 1), 1, 1, 0)
	counts(t, pending(tied(3, condition(2, 1, 0), condition(0, 2, 9)), 1), 1, 1, 1)
	// Ahead of several, once; pending as well, twice.
	counts(t, pending(tied(4, condition(0, 1, 0), condition(0, 2, 1), condition(0, 3, 2)), 1, 2, 3), 1, 1, 1, 1)
	counts(t, pending(tied(3, condition(0, 1, 0), condition(2, 1, 4)), 0, 1), 2, 1, 1)
	counts(t, pending(tied(2, condition(0, 1, 0), condition(0, 1, 5), condition(0, 1, 0)), 1), 1, 1)
	// Ahead of what is called for by what doesn't matter.
	counts(t, tied(3, condition(0, 1, 0), calls(2, 1)), 1, 0, 0)
	// A milestone is nothing to it, nor what was done already.
	counts(t, pending(tied(3, milestone(0, 1), milestone(2, 0)), 1), 0, 1, 0)
	f := pending(tied(2, condition(0, 1, 0)), 1)
	f.Events[0].Done, f.Events[0].In = true, false
	counts(t, f, 1, 1)
	// Ahead by a milestone, and by a condition of what that is ahead of.
	counts(t, pending(tied(3, milestone(0, 1), condition(2, 0, 3)), 1), 0, 1, 1)
}

// P8.1: what is called for is done as often as all that call for it, together.
func TestTimesOfResponses(t *testing.T) {
	counts(t, pending(tied(3, calls(0, 1)), 0), 1, 1, 0)
	counts(t, pending(tied(4, calls(3, 1), calls(1, 0), calls(0, 2)), 3), 1, 1, 1, 1)
	counts(t, pending(tied(3, calls(0, 1), calls(1, 2), calls(0, 2)), 0), 1, 1, 2)
	counts(t, pending(tied(5, calls(0, 1), calls(0, 2), calls(1, 3), calls(2, 3), calls(3, 4), calls(0, 4)), 0), 1, 1, 1, 2, 3)
	// Against the order of their places.
	counts(t, pending(tied(5, calls(4, 3), calls(4, 2), calls(3, 1), calls(2, 1), calls(1, 0), calls(4, 0)), 4), 3, 2, 1, 1, 1)
	// Pending, ahead by a condition, and called for.
	counts(t, pending(tied(4, calls(0, 1), calls(2, 1), condition(1, 3, 0), condition(2, 3, 0)), 0, 1, 2, 3), 1, 5, 2, 1)
	// What is called for by itself alone isn't done: it is a ring; what is called for by what isn't done is done no time.
	counts(t, tied(3, calls(0, 1)), 0, 0, 0)
	// Of several responses from one event to another the event counts once.
	counts(t, pending(tied(3, calls(0, 1), response(0, 1, 3), calls(0, 1), response(1, 2, 0), response(1, 2, 0)), 0), 1, 1, 1)
}

// P8.1: what doesn't matter is done no time, and nothing is done for it.
func TestTimesOfWhatDoesNotMatter(t *testing.T) {
	counts(t, pending(tied(5, condition(0, 1, 0), calls(1, 2), condition(3, 4, 0)), 4), 0, 0, 0, 1, 1)
	// What doesn't matter calls, by a response, for what matters.
	counts(t, pending(tied(3, calls(0, 1), calls(2, 1)), 2), 0, 1, 1)
	// It leads nowhere: that it is in a ring is nothing to the order.
	f := pending(tied(5, condition(0, 1, 0), condition(1, 0, 0), condition(2, 2, 0), milestone(3, 2), calls(0, 4)), 4)
	counts(t, f, 0, 0, 0, 0, 1)
	bounds(t, f, 1)
}

// P8.1: of a net that has no order all is 0.
func TestTimesWithoutOrder(t *testing.T) {
	for _, ties := range [][]flat.Tie{
		{condition(0, 0, 3)}, {milestone(0, 0)}, {calls(0, 0)},
		{condition(0, 1, 3), condition(1, 0, 2)}, {milestone(1, 0), calls(1, 0)}, {condition(1, 0, 3), milestone(2, 1), calls(2, 0)},
	} {
		f := pending(tied(4, append(ties, condition(3, 0, 7))...), 0, 3)
		counts(t, f, 0, 0, 0, 0)
		bounds(t, f, 0)
	}
	// Each response makes matter where it leads: a ring of them alone has no order, pending or not.
	counts(t, pending(tied(3, calls(0, 1), calls(1, 0)), 2), 0, 0, 0)
	// A condition and a response of one event, the same way round, make a ring; the other way round none.
	counts(t, pending(tied(2, condition(0, 1, 0), calls(0, 1)), 0), 0, 0)
	counts(t, pending(tied(2, condition(0, 1, 0), calls(1, 0)), 1), 2, 1)
}

// P8.1: 200 events have an order, 201 none.
func TestTimesOfMany(t *testing.T) {
	for _, many := range []int{199, 200, 201, 202, 1000} {
		want := make([]int, many)
		if many <= 200 {
			want[0], want[5] = 1, 1
		}
		f := pending(tied(many, condition(5, 0, 3)), 0)
		counts(t, f, want...)
		bounds(t, f, 5*want[0])
	}
}

// doubling tells a Flat in which 0 is pending, each of 1 to 25 is called for by all ahead, so that it is done 2 to the power of its place less 1 times, and 26 is called for by some of these, so often in all.
func doubling(times int) flat.Flat {
	f := pending(tied(29), 0)
	for at := range 26 {
		for from := range at {
			f.Ties = append(f.Ties, calls(from, at))
		}
		if at > 0 && times>>(at-1)&1 == 1 {
			f.Ties = append(f.Ties, calls(at, 26))
		}
	}
	return f
}

// P8.1: 1000000 at most.
func TestGreatestTimes(t *testing.T) {
	for times, want := range map[int]int{0: 0, 1: 1, 77: 77, 999999: 999999, 1000000: 1000000, 1000001: 1000000, 1 << 20: 1000000, 1<<25 - 1: 1000000} {
		f := doubling(times)
		if l := cert.Times(f); l[1] != 1 || l[2] != 2 || l[20] != 1<<19 || l[21] != 1000000 || l[25] != 1000000 || l[26] != want {
			t.Errorf("%d: %v", times, l)
		}
		// Pending, or ahead by a condition, as well, and what is called for by it alone, or by another one, too.
		f = pending(doubling(times), 26)
		f.Ties = append(f.Ties, calls(26, 27), calls(26, 28), calls(0, 28))
		more := min(want+1, 1000000)
		if l := cert.Times(f); times != 0 && !slices.Equal(l[26:], []int{more, more, min(more+1, 1000000)}) {
			t.Errorf("%d: %v", times, l)
		}
		f = doubling(times)
		f.Ties = append(f.Ties, condition(26, 27, 0))
		if l := cert.Times(pending(f, 26, 27)); l[26] != min(want+2, 1000000) || l[27] != 1 {
			t.Errorf("%d: %v", times, l)
		}
		bounds(t, f, 1000000)
	}
}

// P8.1: each event as often as it is done at most times 1 and its delay, all together.
func TestBound(t *testing.T) {
	bounds(t, pending(tied(2, condition(0, 1, 0)), 1), 2)
	bounds(t, pending(tied(2, condition(0, 1, 5)), 1), 7)
	bounds(t, pending(tied(3, condition(0, 1, 5), condition(2, 1, 8)), 1), 11)
	bounds(t, pending(tied(3, condition(0, 1, 5), condition(2, 0, 8)), 1), 16)
	// Of several conditions the greatest delay alone; a milestone has none, and a response's Time is none.
	bounds(t, pending(tied(2, condition(0, 1, 5), condition(0, 1, 9), condition(0, 1, 7)), 1), 11)
	bounds(t, pending(tied(2, flat.Tie{Kind: api.Milestone, From: 0, To: 1, Time: 9}), 1), 1)
	bounds(t, pending(tied(2, response(0, 1, 7)), 0), 2)
	// So often: 2 is done twice, 3 once, 1 thrice.
	bounds(t, pending(tied(4, calls(3, 2), condition(0, 2, 4), calls(2, 1), calls(3, 1), condition(0, 1, 10)), 2, 3), 1+3*11+2*5+1)
	// Done no time, a delay is nothing; nor is that of what doesn't matter.
	bounds(t, pending(tied(4, milestone(0, 1), condition(2, 3, 50)), 1), 1)
	bounds(t, tied(3, calls(0, 1), condition(2, 1, 50)), 1)
	// A Time below 0 counts as 0.
	bounds(t, pending(tied(2, condition(0, 1, -5)), 1), 2)
	bounds(t, pending(tied(2, condition(0, 1, math.MinInt)), 1), 2)
}

// P8.1: all together 1000000 at most.
func TestGreatestBound(t *testing.T) {
	for time, want := range map[int]int{
		0: 4, 999995: 999999, 999996: 1000000, 999997: 1000000, 1 << 30: 1000000, math.MaxInt - 1: 1000000, math.MaxInt: 1000000,
	} {
		bounds(t, pending(tied(4, condition(0, 1, time), condition(0, 2, 0), condition(3, 0, 0)), 1, 2), want)
		bounds(t, pending(tied(4, condition(0, 2, time), condition(0, 1, 0), condition(3, 0, 0)), 1, 2), want)
	}
	// Several greatest numbers are no more than one, in whatever order; and so is a great number of great delays.
	bounds(t, pending(tied(4, condition(0, 1, math.MaxInt), condition(0, 2, math.MaxInt), condition(0, 3, math.MaxInt)), 1, 2, 3), 1000000)
	f := doubling(1000000)
	for at := 1; at < 27; at++ {
		f.Ties = append(f.Ties, condition(27, at, math.MaxInt))
	}
	bounds(t, f, 1000000)
	// Done 4 times, each time by a delay.
	for time, want := range map[int]int{0: 9, 249997: 999997, 249998: 1000000, 249999: 1000000} {
		bounds(t, pending(tied(5, calls(0, 1), calls(0, 2), calls(0, 3), calls(1, 2), calls(1, 3), calls(2, 3), condition(4, 3, time)), 0), want)
	}
}

// P8.1: what is pending at first is due no sooner than the bound.
func TestCalmEvents(t *testing.T) {
	for due, want := range map[int]bool{0: false, 1: false, 6: false, 7: true, 8: true, api.Never: true, math.MaxInt: true} {
		f := pending(tied(3, condition(0, 1, 5)), 1)
		f.Events[1].Due = due
		calms(t, f, want)
		// Wherever it stands, and whether it is in, was done, or not.
		for at := range 3 {
			f = pending(tied(3, condition(1, 0, 3)), 0, 1, 2)
			if at > 0 {
				f.Events[at].In, f.Events[at].Done = false, true
			}
			f.Events[at].Due = due
			calms(t, f, due >= 7)
		}
	}
	// What isn't pending isn't due.
	for _, due := range []int{-1, -2, math.MinInt} {
		f := pending(tied(3, condition(0, 1, 5)), 1)
		f.Events[2].Due = due
		calms(t, f, true)
	}
}

// P8.1: each response's Time is the bound at least, whether what it comes from matters or not.
func TestCalmResponses(t *testing.T) {
	for time, want := range map[int]bool{math.MinInt: false, -1: false, 0: false, 1: false, 7: false, 8: true, 9: true, api.Never: true, math.MaxInt: true} {
		calms(t, pending(tied(3, condition(0, 1, 5), response(1, 2, time)), 1), want)
		calms(t, pending(tied(4, condition(0, 1, 5), response(3, 2, time), calls(1, 2)), 1), want)
		// Of several from one event to another each one.
		calms(t, pending(tied(3, condition(0, 1, 5), calls(1, 2), response(1, 2, time)), 1), want)
		calms(t, pending(tied(3, condition(0, 1, 5), response(1, 2, time), calls(1, 2)), 1), want)
	}
	calms(t, pending(tied(3, condition(0, 1, 5), condition(2, 1, 0), milestone(2, 0), include(0, 1), exclude(1, 2)), 1), true)
	// Where all is done no time, no Time is too soon but one below 0.
	calms(t, tied(2, response(0, 1, 0)), true)
	calms(t, tied(2, response(0, 1, -1)), false)
	// Without an order the bound is 0.
	calms(t, pending(tied(2, response(0, 1, 0), response(1, 0, 0), condition(0, 1, 9)), 0), true)
}

// P8.1: ties that lead to, or from, no event are none, and so are such of no Kind that there is.
func TestTiesOfNoEvent(t *testing.T) {
	for _, no := range noPlaces(3) {
		for kind := range 7 {
			f := pending(tied(3, condition(0, 1, 5),
				flat.Tie{Kind: kind, From: no, To: 1, Time: 50}, flat.Tie{Kind: kind, From: 1, To: no},
				flat.Tie{Kind: kind, From: no, To: no}, flat.Tie{Kind: kind, From: no, To: 2, Time: 50}), 1)
			f.Events[1].Due = 7
			counts(t, f, 1, 1, 0)
			bounds(t, f, 7)
			calms(t, f, true)
		}
	}
	for _, kind := range []int{0, -1, 6, math.MinInt, math.MaxInt} {
		odd := func(from, to int) flat.Tie { return flat.Tie{Kind: kind, From: from, To: to, Time: -3} }
		f := pending(tied(3, odd(0, 1), odd(1, 0), odd(1, 1), odd(1, 2)), 1)
		counts(t, f, 0, 1, 0)
		bounds(t, f, 1)
		calms(t, f, true)
	}
}
