package cert_test

import (
	"math"
	"slices"
	"testing"

	"replevin/api"
	"replevin/cert"
	"replevin/flat"
	"replevin/mark"
)

func in(age, due int) api.Mark  { return api.Mark{In: true, Age: age, Due: due} }
func out(age, due int) api.Mark { return api.Mark{Age: age, Due: due} }

const (
	tick = -1 // as Next tells a tick
	none = -2
)

// nexts fails unless this is the next step: an event, a tick, or none.
func nexts(t *testing.T, f flat.Flat, m []api.Mark, want int) {
	t.Helper()
	at, is := cert.Next(f, m)
	if is != (want != none) || at != max(want, -1) {
		t.Errorf("Next of %v, %v: %d, %v, not %d", brief(f.Ties), brief(m), at, is, want)
	}
}

// goes fails unless these are the steps of a Flat, from its first marking on, till there is none, and a Discharge of so many, or fewer, of them tells what is then.
func goes(t *testing.T, f flat.Flat, want ...int) {
	t.Helper()
	first := mark.Start(f)
	m := first
	for i, at := range want {
		nexts(t, f, m, at)
		discharges(t, f, first, i, m, i, api.OK)
		m = then(t, f, m, at)
	}
	nexts(t, f, m, none)
	for _, more := range []int{0, 1, 2, math.MaxInt - len(want)} {
		discharges(t, f, first, len(want)+more, m, len(want), api.OK)
	}
}

// then tells the marking behind a step.
func then(t *testing.T, f flat.Flat, m []api.Mark, at int) []api.Mark {
	t.Helper()
	n, e := mark.Tick(f, m)
	if at != tick {
		n, e = mark.Do(f, m, at)
	}
	if e != api.OK {
		t.Fatalf("%v, %v: %d, %d", f.Ties, m, at, e)
	}
	return n
}

// discharges fails unless this is told of so many steps at most.
func discharges(t *testing.T, f flat.Flat, m []api.Mark, most int, want []api.Mark, steps int, error api.Errno) {
	t.Helper()
	n, k, e := cert.Discharge(f, m, most)
	if !slices.Equal(n, want) || k != steps || e != error {
		t.Errorf("Discharge of %v, %v, %d: %v, %d, %d, not %v, %d, %d", brief(f.Ties), brief(m), most, brief(n), k, e, brief(want), steps, error)
	}
}

// P8.2: the chapter's example, told out.
func TestExampleDischarge(t *testing.T) {
	f := read(t, "event a role r; event b role r pending; condition a b 2;")
	goes(t, f, 0, tick, tick, 1)
}

// P8.2: nothing is wanted but what matters, is in, and pending.
func TestNextOfPending(t *testing.T) {
	f := pending(tied(3, calls(0, 1)), 0)
	for _, due := range []int{0, 1, api.Never} {
		nexts(t, f, []api.Mark{in(-1, due), in(-1, -1), in(-1, -1)}, 0)
		nexts(t, f, []api.Mark{in(4, due), in(-1, -1), in(-1, -1)}, 0)
		nexts(t, f, []api.Mark{in(4, -1), in(5, due), in(-1, -1)}, 1)
		nexts(t, f, []api.Mark{out(-1, due), in(5, -1), in(-1, -1)}, none)
		nexts(t, f, []api.Mark{out(-1, due), in(5, due), in(-1, -1)}, 1)
		// 2 doesn't matter, though it is pending by this marking.
		nexts(t, f, []api.Mark{in(4, -1), in(-1, -1), in(-1, due)}, none)
		nexts(t, f, []api.Mark{in(4, due), in(-1, -1), in(-1, due)}, 0)
		nexts(t, f, []api.Mark{in(4, due), in(-1, due), in(-1, due)}, 1)
	}
	nexts(t, f, []api.Mark{in(-1, -1), in(-1, -1), in(-1, -1)}, none)
	nexts(t, flat.Flat{}, nil, none)
	nexts(t, tied(2), []api.Mark{in(-1, 5), in(-1, 0)}, none)
}

// P8.2: of what is wanted, what comes ahead by a condition, is in, and was never done, is wanted, too.
func TestNextOfNeeded(t *testing.T) {
	// 0 needs 1, that needs 2, that needs 3.
	f := pending(tied(4, condition(1, 0, 0), condition(2, 1, 0), condition(3, 2, 0)), 0)
	never, done := in(-1, -1), in(3, -1)
	nexts(t, f, []api.Mark{in(-1, 9), never, never, never}, 3)
	nexts(t, f, []api.Mark{in(-1, 9), never, never, done}, 2)
	nexts(t, f, []api.Mark{in(-1, 9), never, done, never}, 1)
	nexts(t, f, []api.Mark{in(-1, 9), done, never, never}, 0)
	nexts(t, f, []api.Mark{in(-1, 9), never, done, done}, 1)
	nexts(t, f, []api.Mark{in(-1, 9), done, done, done}, 0)
	// What isn't in isn't wanted, nor is it what it needs.
	nexts(t, f, []api.Mark{in(-1, 9), never, never, out(-1, -1)}, 2)
	nexts(t, f, []api.Mark{in(-1, 9), never, out(-1, -1), never}, 1)
	nexts(t, f, []api.Mark{in(-1, 9), out(-1, -1), never, never}, 0)
	nexts(t, f, []api.Mark{out(-1, 9), never, never, never}, none)
	// What was done, and is pending, is wanted; what needs it waits.
	nexts(t, f, []api.Mark{in(-1, 9), never, never, in(3, 9)}, 3)
	nexts(t, f, []api.Mark{in(-1, 9), in(3, 9), never, done}, 2)
	nexts(t, f, []api.Mark{in(-1, -1), in(3, 9), never, done}, 2)
	nexts(t, f, []api.Mark{in(-1, -1), in(3, 9), done, never}, 1)
	nexts(t, f, []api.Mark{in(-1, -1), never, never, in(-1, 9)}, 3)
	// By a milestone, or a response, nothing is wanted.
	nexts(t, pending(tied(3, milestone(1, 0), condition(2, 1, 0)), 0), []api.Mark{in(-1, 9), never, never}, 0)
	nexts(t, pending(tied(3, calls(0, 1), condition(2, 1, 0)), 0), []api.Mark{in(-1, 9), never, never}, 0)
}

// P8.2: of what is wanted, the last one in the order; if it isn't enabled, a tick, whatever else might be done.
func TestNextIsLast(t *testing.T) {
	// Nothing hangs on another one: the last place is the last.
	goes(t, pending(tied(4), 0, 1, 3), 3, 1, 0)
	// 0 needs 3, 1 needs 2: the order is 0, 1, 2, 3.
	goes(t, pending(tied(4, condition(3, 0, 2), condition(2, 1, 0)), 0, 1), 3, 2, 1, tick, tick, 0)
	// 3 needs 0, 2 needs 1: the order is 2, 1, 3, 0. 3 waits for its delay ahead of 1.
	goes(t, pending(tied(4, condition(0, 3, 2), condition(1, 2, 0)), 2, 3), 0, tick, tick, 3, 1, 2)
	// 0 calls for 1 and 2, 1 for 2.
	goes(t, pending(tied(3, calls(0, 1), calls(0, 2), calls(1, 2)), 0), 0, 2, 1, 2)
	// What is pending holds up by a milestone what comes ahead in the order.
	goes(t, pending(tied(3, milestone(1, 0), milestone(2, 1)), 0, 1, 2), 2, 1, 0)
	goes(t, pending(tied(3, milestone(1, 2), milestone(0, 1)), 0, 1, 2), 0, 1, 2)
	// Done at first, so many ticks are left of its delay.
	f := pending(tied(2, condition(0, 1, 3)), 1)
	f.Events[0].Done = true
	goes(t, f, tick, tick, tick, 1)
	f.Events[0].In = false
	goes(t, f, 1)
}

// P8.2: the document's fifth example of the whole: c calls for b, and b must not be pending for c; the order has a, then c, then b.
func TestExampleOfOrder(t *testing.T) {
	f := read(t, "event a role r pending; event b role r; event c role r; response c b; milestone b c; response a c;")
	goes(t, f, 0, 2, 1)
}

// P8.2: what an event takes out, or in, changes what is wanted.
func TestNextOfExcluded(t *testing.T) {
	goes(t, pending(tied(3, exclude(2, 1), exclude(2, 0), include(1, 0)), 0, 1, 2), 2)
	goes(t, pending(tied(3, exclude(2, 1), exclude(2, 0), include(2, 0)), 0, 1, 2), 2, 0)
	f := pending(tied(3, include(2, 0), condition(1, 0, 2)), 0, 2)
	f.Events[0].In = false
	goes(t, f, 2, 1, tick, tick, 0)
	// What is needed, and out, holds up nothing.
	f = pending(tied(3, condition(1, 0, 4), condition(2, 0, 1)), 0)
	f.Events[1].In = false
	goes(t, f, 2, tick, 0)
}

// P8.2: without an order there is no step; nor is there one of more than 200 events.
func TestNoOrder(t *testing.T) {
	for _, tie := range []flat.Tie{condition(1, 1, 2), milestone(1, 1), calls(1, 1), condition(0, 1, 0), milestone(0, 1)} {
		goes(t, pending(tied(4, tie, condition(1, 0, 0)), 0, 1, 3))
	}
	for many, want := range map[int]int{199: 150, 200: 150, 201: none, 202: none, 5000: none} {
		f := pending(tied(many), 7, 150)
		nexts(t, f, mark.Start(f), want)
	}
	goes(t, pending(tied(201), 7))
	// A ring of what doesn't matter is no matter.
	goes(t, pending(tied(4, condition(0, 1, 0), condition(1, 0, 0), condition(2, 2, 0)), 3), 3)
}

// misfits tells markings that don't fit 3 events.
func misfits() map[string][]api.Mark {
	return map[string][]api.Mark{
		"none": nil, "fewer": {in(0, 1), in(-1, 1)}, "more": slices.Repeat([]api.Mark{in(-1, 1)}, 4),
		"age below": {in(-2, 1), in(-1, 1), in(-1, 1)}, "age above": {in(-1, 1), in(api.MaxAge+1, 1), in(-1, 1)},
		"due below": {in(-1, 1), in(-1, 1), in(-1, -2)}, "due above": {in(-1, 1), out(-1, api.Never+1), in(-1, 1)},
	}
}

// P8.2: a marking that doesn't fit has no next step, and isn't discharged, whatever most is.
func TestMisfits(t *testing.T) {
	for what, m := range misfits() {
		for _, f := range []flat.Flat{tied(3), pending(tied(3), 0, 1, 2), pending(tied(3, condition(0, 1, 4), calls(1, 2)), 1), tied(3, calls(0, 0))} {
			if at, is := cert.Next(f, m); at != -1 || is {
				t.Errorf("%s: %d, %v", what, at, is)
			}
			for _, most := range []int{math.MinInt, -1, 0, 1, 99, math.MaxInt} {
				discharges(t, f, m, most, nil, 0, api.ErrArg)
			}
		}
	}
	discharges(t, flat.Flat{}, []api.Mark{in(-1, -1)}, 5, nil, 0, api.ErrArg)
	discharges(t, flat.Flat{}, nil, 5, nil, 0, api.OK)
	many := pending(tied(300), 5)
	discharges(t, many, mark.Start(tied(299)), 5, nil, 0, api.ErrArg)
	discharges(t, many, mark.Start(many), 5, mark.Start(many), 0, api.OK)
}

// P8.2: so many steps are done, and no more; below 0 none.
func TestDischargeOfSome(t *testing.T) {
	f := pending(tied(3, condition(0, 1, 2), response(1, 2, 5)), 1)
	m := []api.Mark{in(-1, -1), in(-1, 9), in(-1, -1)}
	after := [][]api.Mark{
		m,
		{in(0, -1), in(-1, 9), in(-1, -1)},
		{in(1, -1), in(-1, 8), in(-1, -1)},
		{in(2, -1), in(-1, 7), in(-1, -1)},
		{in(2, -1), in(0, -1), in(-1, 5)},
		{in(2, -1), in(0, -1), in(0, -1)},
	}
	for most, want := range after {
		discharges(t, f, m, most, want, most, api.OK)
		discharges(t, f, after[most], 9, after[5], 5-most, api.OK)
	}
	for _, most := range []int{6, 7, 1 << 40, math.MaxInt} {
		discharges(t, f, m, most, after[5], 5, api.OK)
	}
	for _, most := range []int{-1, -2, math.MinInt} {
		discharges(t, f, m, most, m, 0, api.OK)
	}
}

// P8.2: of a tick that may not be, the marking ahead of it, and how many steps so far.
func TestDischargeOfDue(t *testing.T) {
	f := pending(tied(3, condition(0, 1, 3)), 1)
	discharges(t, f, []api.Mark{in(-1, -1), in(-1, 0), in(-1, -1)}, 9, []api.Mark{in(0, -1), in(-1, 0), in(-1, -1)}, 1, api.ErrDue)
	discharges(t, f, []api.Mark{in(-1, -1), in(-1, 2), in(-1, -1)}, 9, []api.Mark{in(2, -1), in(-1, 0), in(-1, -1)}, 3, api.ErrDue)
	discharges(t, f, []api.Mark{in(0, -1), in(-1, 0), in(-1, -1)}, 9, []api.Mark{in(0, -1), in(-1, 0), in(-1, -1)}, 0, api.ErrDue)
	discharges(t, f, []api.Mark{in(-1, -1), in(-1, 3), in(-1, -1)}, 9, []api.Mark{in(3, -1), in(0, -1), in(-1, -1)}, 5, api.OK)
	// As many steps as may be done: the tick behind them isn't asked for.
	discharges(t, f, []api.Mark{in(-1, -1), in(-1, 2), in(-1, -1)}, 3, []api.Mark{in(2, -1), in(-1, 0), in(-1, -1)}, 3, api.OK)
	discharges(t, f, []api.Mark{in(-1, -1), in(-1, 2), in(-1, -1)}, 4, []api.Mark{in(2, -1), in(-1, 0), in(-1, -1)}, 3, api.ErrDue)
	discharges(t, f, []api.Mark{in(0, -1), in(-1, 0), in(-1, -1)}, 0, []api.Mark{in(0, -1), in(-1, 0), in(-1, -1)}, 0, api.OK)
	// What is due, and isn't wanted, lets no time go on, either; what is out does.
	discharges(t, f, []api.Mark{in(-1, -1), in(-1, 9), in(-1, 1)}, 9, []api.Mark{in(1, -1), in(-1, 8), in(-1, 0)}, 2, api.ErrDue)
	discharges(t, f, []api.Mark{in(-1, -1), in(-1, 9), out(-1, 0)}, 9, []api.Mark{in(3, -1), in(0, -1), out(-1, 0)}, 5, api.OK)
	// Next tells a tick all the same.
	nexts(t, f, []api.Mark{in(0, -1), in(-1, 0), in(-1, -1)}, tick)
	// What a step calls for may be due too soon.
	f = pending(tied(4, response(0, 1, 1), condition(2, 1, 4)), 0)
	discharges(t, f, mark.Start(f), 9, []api.Mark{in(1, -1), in(-1, 0), in(1, -1), in(-1, -1)}, 3, api.ErrDue)
}

// P8.2: what is never enabled is waited for as long as may be.
func TestDischargeForEver(t *testing.T) {
	f := pending(tied(3, condition(0, 1, api.MaxAge+1)), 1)
	m := []api.Mark{in(-1, -1), in(-1, api.Never), out(-1, 7)}
	for _, most := range []int{2, 65536, 65537, 65538, 1 << 40, math.MaxInt} {
		discharges(t, f, m, most, []api.Mark{in(min(most-1, api.MaxAge), -1), in(-1, api.Never), out(-1, 7)}, most, api.OK)
	}
	m[1].Due = 70000
	for _, most := range []int{70002, math.MaxInt} {
		discharges(t, f, m, most, []api.Mark{in(api.MaxAge, -1), in(-1, 0), out(-1, 7)}, 70001, api.ErrDue)
	}
	// As long as that, and it is enabled.
	f.Ties[0].Time = api.MaxAge
	discharges(t, f, m, math.MaxInt, []api.Mark{in(api.MaxAge, -1), in(0, -1), out(-1, 7)}, api.MaxAge+2, api.OK)
}

// P8.2: ties that lead to, or from, no event are none to the steps.
func TestStepsWithTiesOfNoEvent(t *testing.T) {
	for _, no := range noPlaces(3) {
		f := pending(tied(3, condition(0, 1, 2)), 1)
		for kind := range 7 {
			f.Ties = append(f.Ties, flat.Tie{Kind: kind, From: no, To: 1, Time: 50}, flat.Tie{Kind: kind, From: 1, To: no},
				flat.Tie{Kind: kind, From: no, To: no}, flat.Tie{Kind: kind, From: 0, To: no, Time: 50})
		}
		goes(t, f, 0, tick, tick, 1)
	}
}

// P8.2: of several ties of one Kind from one event to another each one holds.
func TestStepsWithTiesTwice(t *testing.T) {
	for _, times := range [][]int{{1, 3}, {3, 1}, {3, 3}, {-1, 3, 0}} {
		f := pending(tied(2), 1)
		g := pending(tied(2), 1)
		for _, time := range times {
			f.Ties = append(f.Ties, condition(0, 1, time))
			g.Ties = append(g.Ties, response(1, 0, time))
		}
		goes(t, f, 0, tick, tick, tick, 1)
		least := max(slices.Min(times), 0)
		discharges(t, g, []api.Mark{in(5, -1), in(-1, 9)}, 1, []api.Mark{in(5, least), in(0, -1)}, 1, api.OK)
	}
}
