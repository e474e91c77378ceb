package cert

import (
	"slices"

	"replevin/api"
	"replevin/flat"
	"replevin/mark"
	"replevin/needs"
	"replevin/ring"
)

// maxTimes is the greatest number that is told of how often events are done, and of the bound.
const maxTimes = 1000000

// plan is what the steps of a flat graph hang on: it is worked out once for all of them.
type plan struct {
	events []api.Event
	order  []int       // what matters, in order; none, if there is no order
	about  []flat.Flat // of each event, the graph of those ties alone that name it
}

func planned(f flat.Flat) plan {
	p := plan{events: f.Events}
	matters, all := needs.Matters(f), needs.Net(f)
	counts := make(ring.Net, len(all))
	for _, at := range matters {
		counts[at] = all[at]
	}
	order, e := ring.Order(counts)
	if e != api.OK {
		return p
	}
	p.order = slices.DeleteFunc(order, func(at int) bool { return !slices.Contains(matters, at) })
	p.about = about(f)
	return p
}

// about tells, of each event, the graph of those ties alone that name it: a look at all ties in each step would take too long.
func about(f flat.Flat) []flat.Flat {
	l := make([]flat.Flat, len(f.Events))
	for at := range l {
		l[at].Events = f.Events
	}
	for _, t := range strictest(f) {
		l[t.From].Ties = append(l[t.From].Ties, t)
		if t.To != t.From {
			l[t.To].Ties = append(l[t.To].Ties, t)
		}
	}
	return l
}

// strictest tells the ties between events: of those of one Kind, From and To the strictest, to which the others add nothing.
func strictest(f flat.Flat) []flat.Tie {
	var l []flat.Tie
	places := map[flat.Tie]int{}
	for _, t := range f.Ties {
		if !isBetweenEvents(f, t) {
			continue
		}
		timeless := flat.Tie{Kind: t.Kind, From: t.From, To: t.To}
		at, again := places[timeless]
		switch {
		case !again:
			places[timeless] = len(l)
			l = append(l, t)
		case t.Kind == api.Condition:
			l[at].Time = max(l[at].Time, t.Time)
		default:
			l[at].Time = min(l[at].Time, t.Time)
		}
	}
	return l
}

func isBetweenEvents(f flat.Flat, t flat.Tie) bool { return has(f, t.From) && has(f, t.To) }

func has(f flat.Flat, at int) bool { return 0 <= at && at < len(f.Events) }

func isPending(v api.Event) bool { return v.Due >= 0 }

// conditions tells the conditions that lead to an event.
func (p plan) conditions(at int) []flat.Tie { return flat.Into(p.about[at], api.Condition, at) }

// times tells how often each event is done at most.
func (p plan) times() []int {
	times := make([]int, len(p.events))
	isAhead := make([]bool, len(p.events)) // by a condition, of an event that matters
	// What is behind an event, and calls for it, stands ahead of it in the order: its number is whole.
	for _, at := range p.order {
		if isPending(p.events[at]) {
			times[at]++
		}
		if isAhead[at] {
			times[at]++
		}
		times[at] = min(times[at], maxTimes)
		for _, to := range needs.Calls(p.about[at], at) {
			times[to] += times[at]
		}
		for _, t := range p.conditions(at) {
			isAhead[t.From] = true
		}
	}
	return times
}

// bound tells how many steps there are at most.
func (p plan) bound() int {
	bound := 0
	times := p.times()
	for _, at := range p.order {
		each := 1 + min(needs.Delay(p.about[at], at), maxTimes)
		bound = min(bound+times[at]*each, maxTimes)
	}
	return bound
}

// last tells the one that stands last in the order, of what is wanted; or -1.
func (p plan) last(m []api.Mark) int {
	last := -1
	isNeeded := make([]bool, len(m)) // by one that is wanted
	for _, at := range p.order {
		if !isNeeded[at] && !(m[at].In && m[at].Due >= 0) {
			continue
		}
		last = at
		for _, t := range p.conditions(at) {
			isNeeded[t.From] = m[t.From].In && m[t.From].Age < 0
		}
	}
	return last
}

// advanced tells the marking behind the ticks till an event is enabled, and the event; or behind as many of these steps as may be done. It tells how many they were.
func (p plan) advanced(m []api.Mark, at, most int) ([]api.Mark, int, api.Errno) {
	f := p.about[at]
	for steps := range most {
		if n, e := mark.Do(f, m, at); e == api.OK {
			return n, steps + 1, api.OK
		}
		n, e := mark.Tick(f, m)
		if e != api.OK {
			return m, steps, e
		}
		// Where a tick changes nothing, none of those that are left does: they aren't gone through, however many they are.
		if mark.Same(n, m) {
			break
		}
		m = n
	}
	return m, most, api.OK
}
