package cert_test

import (
	"math/rand"
	"slices"
	"testing"

	"replevin/api"
	"replevin/cert"
	"replevin/flat"
	"replevin/mark"
)

// chance tells a Flat of a few events and ties, some of them of no kind, or of what is no event; but for one in a few, what hangs on another one has the greater place, or the lesser.
func chance(r *rand.Rand) flat.Flat {
	many := r.Intn(8)
	f := tied(many)
	for i := range f.Events {
		f.Events[i].In, f.Events[i].Done = r.Intn(5) > 0, r.Intn(5) == 0
		f.Events[i].Due = max(r.Intn(40)-20, -1)
	}
	rises := r.Intn(3)
	for range r.Intn(16) {
		kind, from, to := max(r.Intn(11)-4, r.Intn(2)), r.Intn(many+2)-1, r.Intn(many+2)-1
		if from == to && r.Intn(20) > 0 {
			continue
		}
		// A condition, or a milestone, leads from what blocks, a response from what calls.
		if isDown := kind == 2; rises < 2 && (from > to) != (isDown == (rises == 0)) {
			from, to = to, from
		}
		f.Ties = append(f.Ties, flat.Tie{Kind: kind, From: from, To: to, Time: r.Intn(30) - 3})
	}
	return f
}

// marking tells a marking of so many events; of half of them all but one in a few were done, and aren't pending.
func marking(r *rand.Rand, many int) []api.Mark {
	var m []api.Mark
	isLate := r.Intn(2) == 0
	for range many {
		v := api.Mark{In: r.Intn(5) > 0, Age: r.Intn(9), Due: r.Intn(15)}
		if !isLate && r.Intn(2) == 0 {
			v.Age = -1
		}
		if r.Intn(2) == 0 || isLate && r.Intn(2) == 0 {
			v.Due = -1
		}
		m = append(m, v)
	}
	return m
}

// ties tells whether a tie of one of these kinds leads from one event to another one.
func ties(f flat.Flat, from, to int, kinds ...int) bool {
	return slices.ContainsFunc(f.Ties, func(t flat.Tie) bool { return t.From == from && t.To == to && slices.Contains(kinds, t.Kind) })
}

// isOf tells whether a place is that of an event.
func isOf(f flat.Flat, at int) bool { return 0 <= at && at < len(f.Events) }

// leads tells whether one event leads to another one by the net of needs.
func leads(f flat.Flat, from, to int) bool { return ties(f, to, from, 1, 5) || ties(f, from, to, 2) }

// slowMatters tells which events matter: what is called for, and again and again what that leads to.
func slowMatters(f flat.Flat) []bool {
	isIn := make([]bool, len(f.Events))
	for at, v := range f.Events {
		isIn[at] = v.Due >= 0
		for from := range f.Events {
			isIn[at] = isIn[at] || ties(f, from, at, 2)
		}
	}
	for range f.Events {
		for from := range f.Events {
			for to := range f.Events {
				isIn[to] = isIn[to] || isIn[from] && leads(f, from, to)
			}
		}
	}
	return isIn
}

// slowOrder tells the order, of all events, or none.
func slowOrder(f flat.Flat) []int {
	matters := slowMatters(f)
	var order []int
	for range f.Events {
		next := 0
		for ; next < len(f.Events); next++ {
			isFree := !slices.Contains(order, next)
			for from := range f.Events {
				isFree = isFree && (slices.Contains(order, from) || !matters[from] || !leads(f, from, next))
			}
			if isFree {
				break
			}
		}
		if next == len(f.Events) {
			return nil
		}
		order = append(order, next)
	}
	return order
}

// slowTimes tells, word by word, how often an event is done at most; of a net that has an order.
func slowTimes(f flat.Flat, at int) int {
	matters := slowMatters(f)
	if !matters[at] {
		return 0
	}
	times := 0
	if f.Events[at].Due >= 0 {
		times++
	}
	if slices.ContainsFunc(f.Ties, func(t flat.Tie) bool {
		return t.Kind == 1 && t.From == at && isOf(f, t.To) && matters[t.To]
	}) {
		times++
	}
	for from := range f.Events {
		if matters[from] && ties(f, from, at, 2) {
			times += slowTimes(f, from)
		}
	}
	return times
}

// slowBound tells, word by word, the bound, and how often each event is done.
func slowBound(f flat.Flat) (int, []int) {
	times, bound := make([]int, len(f.Events)), 0
	for _, at := range slowOrder(f) {
		times[at] = slowTimes(f, at)
		delay := 0
		for _, t := range f.Ties {
			if t.Kind == 1 && t.To == at && isOf(f, t.From) {
				delay = max(delay, t.Time)
			}
		}
		bound += times[at] * (1 + delay)
	}
	return bound, times
}

// slowNext tells, word by word, the next step.
func slowNext(f flat.Flat, m []api.Mark) int {
	matters := slowMatters(f)
	wanted := make([]bool, len(m))
	for range len(m) + 1 {
		for at, v := range m {
			wanted[at] = wanted[at] || matters[at] && v.In && v.Due >= 0
			for to := range m {
				wanted[at] = wanted[at] || wanted[to] && v.In && v.Age == -1 && ties(f, at, to, 1)
			}
		}
	}
	next := none
	for _, at := range slowOrder(f) {
		if wanted[at] {
			next = at
		}
	}
	if next >= 0 && !mark.Enabled(f, m, next) {
		return tick
	}
	return next
}

// P8.1 and P8.2, of very many small ones: all is as the words say.
func TestManySmall(t *testing.T) {
	r := rand.New(rand.NewSource(8))
	var bounded, calm int
	steps := map[int]int{}
	for range 20000 {
		f := chance(r)
		bound, times := slowBound(f)
		counts(t, f, times...)
		bounds(t, f, bound)
		isCalm := !slices.ContainsFunc(f.Events, func(v api.Event) bool { return v.Due >= 0 && v.Due < bound })
		for _, tie := range f.Ties {
			isCalm = isCalm && (tie.Kind != 2 || tie.Time >= bound || !isOf(f, tie.From) || !isOf(f, tie.To))
		}
		calms(t, f, isCalm)
		bounded += min(bound, 1)
		if isCalm && bound > 0 {
			calm++
		}
		m := mark.Start(f)
		for range 3 {
			want := slowNext(f, m)
			nexts(t, f, m, want)
			steps[max(want, 0)-min(want, 0)*10]++
			m = marking(r, len(m))
		}
		follows(t, f, m)
		if t.Failed() {
			t.Fatalf("%v, %v", f, m)
		}
	}
	if bounded < 8000 || calm < 500 || steps[10] < 600 || steps[20] < 9000 || steps[1] < 4000 {
		t.Errorf("%d, %d, %v", bounded, calm, steps)
	}
}

// follows fails unless a Discharge is the steps that Next tells, one after the other.
func follows(t *testing.T, f flat.Flat, m []api.Mark) {
	t.Helper()
	first := slices.Clone(m)
	for steps := range 60 {
		discharges(t, f, first, steps, m, steps, api.OK)
		at, is := cert.Next(f, m)
		if !is {
			discharges(t, f, first, steps+1, m, steps, api.OK)
			return
		}
		n, e := mark.Tick(f, m)
		if at >= 0 {
			n, e = mark.Do(f, m, at)
		}
		if e != api.OK {
			if at >= 0 {
				t.Fatalf("%v, %v: %d, %d", f, m, at, e)
			}
			discharges(t, f, first, steps+1, m, steps, api.ErrDue)
			return
		}
		m = n
	}
}
