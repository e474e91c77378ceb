package needs_test

import (
	"math/rand"
	"reflect"
	"slices"
	"testing"
	"time"

	"replevin/api"
	"replevin/flat"
	"replevin/needs"
	"replevin/ring"
)

// chance tells a Flat of a few events and ties, some of them of no kind, or of what is no event.
func chance(r *rand.Rand) flat.Flat {
	many := r.Intn(8)
	f := tied(many)
	for i := range f.Events {
		f.Events[i].In = r.Intn(4) > 0
		f.Events[i].Due = max(r.Intn(9)-7, -1)
	}
	for range r.Intn(20) {
		f.Ties = append(f.Ties, flat.Tie{Kind: r.Intn(7), From: r.Intn(many+2) - 1, To: r.Intn(many+2) - 1, Time: r.Intn(9) - 2})
	}
	return f
}

// ties tells whether a tie of one of these kinds leads from one event to another one.
func ties(f flat.Flat, from, to int, kinds ...int) bool {
	return slices.ContainsFunc(f.Ties, func(t flat.Tie) bool { return t.From == from && t.To == to && slices.Contains(kinds, t.Kind) })
}

// chosen tells which of so many places a choice takes.
func chosen(many int, takes func(at int) bool) []int {
	var l []int
	for at := range many {
		if takes(at) {
			l = append(l, at)
		}
	}
	return l
}

// slowMatters tells what matters: what is called for, and again and again what blocks that, and what it calls for.
func slowMatters(f flat.Flat, isCalled []int) []int {
	isIn := make([]bool, len(f.Events))
	for front := slices.Clone(isCalled); len(front) > 0; front = front[1:] {
		at := front[0]
		if isIn[at] {
			continue
		}
		isIn[at] = true
		for to := range f.Events {
			if ties(f, to, at, 1, 5) || ties(f, at, to, 2) {
				front = append(front, to)
			}
		}
	}
	return chosen(len(f.Events), func(at int) bool { return isIn[at] })
}

// agrees fails unless what is told of a Flat is as the words say.
func agrees(t *testing.T, f flat.Flat) {
	t.Helper()
	many := len(f.Events)
	leadsTo := func(to, kind int) bool {
		return len(chosen(many, func(from int) bool { return ties(f, from, to, kind) })) > 0
	}
	var net [][]int
	for at := range many {
		blocks := chosen(many, func(from int) bool { return ties(f, from, at, 1, 5) })
		calls := chosen(many, func(to int) bool { return ties(f, at, to, 2) })
		blocked(t, f, at, blocks...)
		callsFor(t, f, at, calls...)
		net = append(net, chosen(many, func(to int) bool { return slices.Contains(blocks, to) || slices.Contains(calls, to) }))
		delay := 0
		for _, tie := range f.Ties {
			if tie.Kind == 1 && tie.To == at && tie.From >= 0 && tie.From < many {
				delay = max(delay, tie.Time)
			}
		}
		delayed(t, f, at, delay)
	}
	nets(t, f, net...)
	isCalled := chosen(many, func(at int) bool { return f.Events[at].Due >= 0 || leadsTo(at, 2) })
	called(t, f, isCalled...)
	matters(t, f, slowMatters(f, isCalled)...)
	excluded(t, f, chosen(many, func(at int) bool { return !f.Events[at].In || leadsTo(at, 4) })...)
}

// P7.1, of very many small ones: all is as the words say.
func TestManySmall(t *testing.T) {
	r := rand.New(rand.NewSource(7))
	for range 10000 {
		f := chance(r)
		agrees(t, f)
		if t.Failed() {
			t.Fatalf("%v", f)
		}
	}
}

// holdsAll fails unless each of some places is one of others.
func holdsAll(t *testing.T, f flat.Flat, of, places []int) {
	t.Helper()
	for _, at := range places {
		if !slices.Contains(of, at) {
			t.Fatalf("%v: %d isn't in %v", f, at, of)
		}
	}
}

// P7.2: what matters holds what blocks it, and what it calls for; and the net holds both, and nothing else.
func TestWhatFollows(t *testing.T) {
	r := rand.New(rand.NewSource(72))
	mattered, closed := 0, 0
	for range 10000 {
		f := chance(r)
		all, n := needs.Matters(f), needs.Net(f)
		holdsAll(t, f, all, needs.Called(f))
		for _, at := range all {
			holdsAll(t, f, all, needs.Blocks(f, at))
			holdsAll(t, f, all, needs.Calls(f, at))
			holdsAll(t, f, all, ring.Reach(n, at))
		}
		for at := range f.Events {
			holdsAll(t, f, n[at], needs.Blocks(f, at))
			holdsAll(t, f, n[at], needs.Calls(f, at))
			holdsAll(t, f, slices.Concat(needs.Blocks(f, at), needs.Calls(f, at)), n[at])
			// Each that matters is called for, or one that is leads to it.
			leads := func(from int) bool { return slices.Contains(ring.Reach(n, from), at) }
			isCalled := needs.Called(f)
			if slices.Contains(all, at) != (slices.Contains(isCalled, at) || slices.ContainsFunc(isCalled, leads)) {
				t.Fatalf("%v: %d, %v", f, at, all)
			}
		}
		mattered += len(all)
		closed += len(all) - len(needs.Called(f))
	}
	if mattered < 10000 || closed < 1500 {
		t.Errorf("%d, %d", mattered, closed)
	}
}

// P7.2: that a tie stands again, or that ties stand in another order, changes nothing.
func TestOrderOfTies(t *testing.T) {
	r := rand.New(rand.NewSource(73))
	for range 3000 {
		f := chance(r)
		g := flat.Flat{Events: f.Events, Ties: slices.Concat(f.Ties, f.Ties)}
		r.Shuffle(len(g.Ties), func(i, j int) { g.Ties[i], g.Ties[j] = g.Ties[j], g.Ties[i] })
		if !reflect.DeepEqual(answers(f), answers(g)) {
			t.Fatalf("%v: %v, not %v", g, answers(g), answers(f))
		}
	}
}

// answers tells all lists that are told of a Flat, and the delays.
func answers(f flat.Flat) [][]int {
	l := [][]int{needs.Called(f), needs.Matters(f), needs.Excluded(f), nil}
	for at := -1; at <= len(f.Events); at++ {
		l[3] = append(l[3], needs.Delay(f, at))
		l = append(l, needs.Blocks(f, at), needs.Calls(f, at))
	}
	return append(l, needs.Net(f)...)
}

// sample tells a Flat of which each list has something, with room behind its own lists, anew each time.
func sample() flat.Flat {
	f := tied(5, response(2, 4), condition(3, 2, 1), milestone(0, 2), response(2, 1), condition(4, 0, 6), exclude(1, 3), condition(1, 0, 2), condition(3, 2, 1))
	f.Events[1].In, f.Events[2].Due = false, 3
	f.Events, f.Ties = slices.Grow(f.Events, 9), slices.Grow(f.Ties, 9)
	return f
}

// scribble writes over a list, and over the room behind it.
func scribble[T any](l []T, other T) {
	l = l[:cap(l)]
	for i := range l {
		l[i] = other
	}
}

// R3: a Flat stays as it was, with the room behind its lists, whatever is asked of it, and whatever is written to what is told of it.
func TestArgumentStays(t *testing.T) {
	f, was := sample(), sample()
	for range 2 {
		for _, l := range answers(f) {
			scribble(l, 77)
		}
		scribble(needs.Net(f), []int{5})
		if !slices.Equal(f.Events[:14], was.Events[:14]) || !slices.Equal(f.Ties[:17], was.Ties[:17]) {
			t.Fatalf("%v, not %v", f, was)
		}
	}
}

// R3: no answer shares anything with its Flat, or with another answer, or a part of it with another part.
func TestSharesNothing(t *testing.T) {
	f := sample()
	want := answers(sample())
	again := answers(f)
	for _, l := range answers(f) {
		scribble(l, 77)
	}
	n, m := needs.Net(f), needs.Net(f)
	scribble(f.Events, api.Event{Due: 9})
	scribble(f.Ties, response(4, 0))
	if !reflect.DeepEqual(again, want) {
		t.Errorf("%v, not %v", again, want)
	}
	for at := range n {
		n[at] = append(n[at], 77, 77, 77, 77)
		scribble(n[at], 77)
		for i := at + 1; i < len(n); i++ {
			if !slices.Equal(n[i], m[i]) {
				t.Errorf("%d, %d: %v, not %v", at, i, n[i], m[i])
			}
		}
	}
}

// R4 and R5: the same call answers the same, whatever was called between.
func TestSameAgain(t *testing.T) {
	r := rand.New(rand.NewSource(45))
	for range 20 {
		f := chance(r)
		was := answers(f)
		for range 50 {
			answers(chance(r))
			if !reflect.DeepEqual(answers(f), was) {
				t.Fatalf("%v: %v, not %v", f, answers(f), was)
			}
		}
	}
}

// soon fails unless a call ends in a time in which it could be made many times over.
func soon(t *testing.T, what string, call func()) {
	t.Helper()
	ended := make(chan struct{})
	go func() {
		call()
		close(ended)
	}()
	select {
	case <-ended:
	case <-time.After(30 * time.Second):
		t.Fatalf("%s: not soon", what)
	}
}

// rising tells the places from one up to, but without, another one.
func rising(from, to int) []int {
	var l []int
	for at := from; at < to; at++ {
		l = append(l, at)
	}
	return l
}

// R1: very many events, each of which the one ahead calls for, and all of which the last one blocks.
func TestManyEvents(t *testing.T) {
	const many = 1 << 19
	f := tied(many)
	for at := range many - 1 {
		f.Ties = append(f.Ties, response(at, at+1), condition(many-1, at, at), exclude(many-1, at))
	}
	soon(t, "Called", func() { called(t, f, rising(1, many)...) })
	soon(t, "Matters", func() { matters(t, f, rising(1, many)...) })
	soon(t, "Excluded", func() { excluded(t, f, rising(0, many-1)...) })
	soon(t, "one event", func() {
		blocked(t, f, 5, many-1)
		callsFor(t, f, 5, 6)
		delayed(t, f, 5, 5)
	})
	soon(t, "Net", func() {
		n := needs.Net(f)
		if len(n) != many || !slices.Equal(n[5], []int{6, many - 1}) || !slices.Equal(n[many-2], []int{many - 1}) || len(n[many-1]) != 0 {
			t.Errorf("%d", len(n))
		}
	})
	// A long ring, each of which the next one blocks: as one is pending, all of it matters.
	f = pending(tied(many), 0)
	for at := range many {
		f.Ties = append(f.Ties, milestone((at+1)%many, at))
	}
	soon(t, "Matters of a ring", func() { matters(t, f, rising(0, many)...) })
}

// R1: very many ties that lead to one event, and from one, each again and again.
func TestManyTies(t *testing.T) {
	const many = 1000
	f := tied(many)
	for i := range many * many {
		f.Ties = append(f.Ties, flat.Tie{Kind: i%5 + 1, From: i / 5 % many, To: 7, Time: i}, response(7, i%many))
	}
	soon(t, "ties", func() {
		blocked(t, f, 7, rising(0, many)...)
		callsFor(t, f, 7, rising(0, many)...)
		delayed(t, f, 7, many*many-5)
		called(t, f, rising(0, many)...)
		matters(t, f, rising(0, many)...)
		excluded(t, f, 7)
		n := needs.Net(f)
		if !slices.Equal(n[7], rising(0, many)) || !slices.Equal(n[8], []int{7}) {
			t.Errorf("%v", n[8])
		}
	})
}
