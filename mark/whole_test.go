package mark_test

import (
	"math"
	"math/rand"
	"slices"
	"testing"
	"time"

	"replevin/api"
	"replevin/flat"
	"replevin/mark"
)

// slowEnabled tells, word by word, whether an event that there is is enabled.
func slowEnabled(f flat.Flat, m []api.Mark, at int) bool {
	for _, t := range f.Ties {
		if t.To != at || t.From < 0 || t.From >= len(m) || !m[t.From].In {
			continue
		}
		from := m[t.From]
		if t.Kind == api.Condition && (from.Age == -1 || from.Age < t.Time) || t.Kind == api.Milestone && from.Due != -1 {
			return false
		}
	}
	return m[at].In
}

// slowDo tells, word by word, the marking behind an event that is enabled: of each event alone what it is then.
func slowDo(f flat.Flat, m []api.Mark, at int) []api.Mark {
	var n []api.Mark
	for i, v := range m {
		if i == at {
			v.Age, v.Due = 0, -1
		}
		includes, excludes := false, false
		for _, t := range f.Ties {
			if t.From != at || t.To != i {
				continue
			}
			includes = includes || t.Kind == api.Include
			excludes = excludes || t.Kind == api.Exclude
			if t.Kind == api.Response {
				due := t.Time
				if due < 0 {
					due = 0
				}
				if due > api.Never {
					due = api.Never
				}
				if v.Due == -1 || v.Due > due {
					v.Due = due
				}
			}
		}
		v.In = includes || v.In && !excludes
		n = append(n, v)
	}
	return n
}

// slowTick tells, word by word, the marking behind a tick, and whether time may go on.
func slowTick(m []api.Mark) ([]api.Mark, bool) {
	var n []api.Mark
	for _, v := range m {
		if v.In && v.Due == 0 {
			return nil, false
		}
		if v.Age != -1 && v.Age != api.MaxAge {
			v.Age++
		}
		if v.In && v.Due > 0 && v.Due != api.Never {
			v.Due--
		}
		n = append(n, v)
	}
	return n, true
}

// chance tells a Flat of few events, and ties of all kinds that there are and aren't, between these and what are none.
func chance(r *rand.Rand) flat.Flat {
	var f flat.Flat
	dues := []int{-7, -1, -1, 0, 1, 2, 5, api.Never, api.Never + 3}
	times := []int{math.MinInt, -1, 0, 0, 1, 2, 3, 4, api.MaxAge, api.Never, api.Never + 1, math.MaxInt}
	many := r.Intn(6)
	for range many {
		f.Events = append(f.Events, api.Event{In: r.Intn(4) > 0, Done: r.Intn(3) == 0, Due: dues[r.Intn(len(dues))]})
	}
	for range r.Intn(14) {
		time := r.Intn(4)
		if r.Intn(4) == 0 {
			time = times[r.Intn(len(times))]
		}
		f.Ties = append(f.Ties, flat.Tie{Kind: r.Intn(8) - 1, From: r.Intn(many+2) - 1, To: r.Intn(many+2) - 1, Time: time})
	}
	return f
}

// agrees fails unless all that is told of a marking that fits is as the words say.
func agrees(t *testing.T, f flat.Flat, m []api.Mark) {
	t.Helper()
	if !mark.Fits(f, m) {
		t.Fatalf("%v: %v", f, m)
	}
	var want []int
	waiting, least := 0, api.Never
	for at, v := range m {
		if slowEnabled(f, m, at) {
			want = append(want, at)
		}
		if v.In && v.Due != -1 {
			waiting++
			least = min(least, v.Due)
		}
	}
	enables(t, f, m, want...)
	if mark.Accepting(f, m) != (waiting == 0) || mark.Slack(f, m) != least {
		t.Fatalf("%v: %v, %d", m, mark.Accepting(f, m), mark.Slack(f, m))
	}
}

// P5.1 to P5.4, of very many small graphs, event by event and tick by tick: it is as the words say, and what comes of what fits fits.
func TestManySmallRuns(t *testing.T) {
	r := rand.New(rand.NewSource(14))
	done, ticks := 0, 0
	for range 4000 {
		f := chance(r)
		m := mark.Start(f)
		for range 12 {
			agrees(t, f, m)
			if all := mark.All(f, m); len(all) > 0 && r.Intn(2) > 0 {
				at := all[r.Intn(len(all))]
				n := did(t, f, m, at)
				if !slices.Equal(n, slowDo(f, m, at)) {
					t.Fatalf("%v, %v, %d: %v", f.Ties, m, at, n)
				}
				m = n
				done++
				continue
			}
			n, may := slowTick(m)
			k, e := mark.Tick(f, m)
			if !slices.Equal(k, n) || (e == api.OK) != may {
				t.Fatalf("%v: %v, %d, not %v", m, k, e, n)
			}
			if !may {
				break
			}
			m = n
			ticks++
		}
	}
	if done < 4000 || ticks < 4000 {
		t.Errorf("%d, %d", done, ticks)
	}
}

// named tells whether a tie names an event.
func named(f flat.Flat, at int) bool {
	return slices.ContainsFunc(f.Ties, func(t flat.Tie) bool { return t.From == at || t.To == at })
}

// P5.4: what isn't named by a tie stays as it is, but for what is done itself; what was done is done.
func TestWhatFollows(t *testing.T) {
	r := rand.New(rand.NewSource(15))
	stayed := 0
	for range 4000 {
		f := chance(r)
		m := mark.Start(f)
		for i := range m {
			m[i].Age = r.Intn(5) - 1
		}
		for _, at := range mark.All(f, m) {
			n := did(t, f, m, at)
			if n[at].Age != 0 {
				t.Fatalf("%v", n)
			}
			for i := range n {
				if (m[i].Age < 0) != (n[i].Age < 0) && i != at {
					t.Fatalf("%v, %d: %v", m, at, n)
				}
				if i != at && !named(f, i) {
					stayed++
					if n[i] != m[i] {
						t.Fatalf("%v, %v, %d: %v", f.Ties, m, at, n)
					}
				}
			}
			if k, e := mark.Tick(f, n); e == api.OK && k[at].Age != 1 {
				t.Fatalf("%v: %v", n, k)
			}
		}
	}
	if stayed < 1000 {
		t.Errorf("%d", stayed)
	}
}

// roomy tells a marking with room behind it, and all of that room.
func roomy() (m, room []api.Mark) {
	room = []api.Mark{in(1, 2), in(3, 4), in(-1, -1), in(5, 6), out(7, 8), in(9, 10)}
	return room[:3], room
}

// R3: the marking stays as it was, with the room behind it, and so do the Flat's events and ties.
func TestArgumentsStay(t *testing.T) {
	m, room := roomy()
	_, was := roomy()
	events := []api.Event{{Name: "a", In: true, Due: 5}, {Name: "b", Done: true, Due: -4}, {Name: "c"}, {Name: "d"}}
	ties := []flat.Tie{include(0, 2), exclude(0, 1), response(0, 2, 1), response(0, 0, api.Never+1), condition(1, 0, 2), milestone(2, 0), exclude(0, 2)}
	f := flat.Flat{Events: events[:3], Ties: ties[:6]}
	eventsWere, tiesWere := slices.Clone(events), slices.Clone(ties)
	for range 2 {
		mark.Fits(f, m)
		scribble(mark.Start(f))
		mark.Enabled(f, m, 0)
		mark.All(f, m)
		for _, at := range []int{0, 1, 2, 3, -1} {
			n, _ := mark.Do(f, m, at)
			scribble(n)
		}
		n, _ := mark.Tick(f, m)
		scribble(n)
		mark.Slack(f, m)
		mark.Accepting(f, m)
		mark.Same(m, room)
		if !slices.Equal(room, was) || !slices.Equal(events, eventsWere) || !slices.Equal(ties, tiesWere) {
			t.Fatalf("%v, %v, %v", room, events, ties)
		}
	}
}

// scribble writes over a marking, and over the room behind it.
func scribble(m []api.Mark) {
	m = m[:cap(m)]
	for i := range m {
		m[i] = api.Mark{In: true, Age: 77, Due: 78}
	}
}

// R3 and R5: no answer shares anything with an argument, or with another answer.
func TestSharesNothing(t *testing.T) {
	f := tied(3, response(0, 2, 1), exclude(0, 1))
	f.Events[2] = api.Event{In: true, Due: 3}
	m, room := roomy()
	start, again := mark.Start(f), mark.Start(f)
	done, _ := mark.Do(f, m, 0)
	doneAgain, _ := mark.Do(f, m, 0)
	tick, _ := mark.Tick(f, m)
	tickAgain, _ := mark.Tick(f, m)
	all, allAgain := mark.All(f, m), mark.All(f, m)
	for _, l := range [][]api.Mark{start, done, tick} {
		scribble(l)
	}
	for i := range all {
		all[i] = 99
	}
	scribble(room)
	f.Events[2] = api.Event{Due: 4}
	f.Ties[0] = include(1, 1)
	if !slices.Equal(again, []api.Mark{out(-1, 0), out(-1, 0), in(-1, 3)}) {
		t.Errorf("%v", again)
	}
	if !slices.Equal(doneAgain, []api.Mark{in(0, -1), out(3, 4), in(-1, 1)}) {
		t.Errorf("%v", doneAgain)
	}
	if !slices.Equal(tickAgain, []api.Mark{in(2, 1), in(4, 3), in(-1, -1)}) {
		t.Errorf("%v", tickAgain)
	}
	if !slices.Equal(allAgain, []int{0, 1, 2}) {
		t.Errorf("%v", allAgain)
	}
}

// soon fails unless a call ends in a time in which it could be made many times over.
func soon(t *testing.T, what string, call func()) {
	t.Helper()
	ended := make(chan struct{})
	go func() {
		call()
		close(ended)
	}()
	select {
	case <-ended:
	case <-time.After(30 * time.Second):
		t.Fatalf("%s: not soon", what)
	}
}

// R1: what is very large is told as what is small. Event 0 calls for, and takes out, all others; each but the last is needed by the one behind it.
func TestLarge(t *testing.T) {
	const many = 1 << 19
	f := flat.Flat{Events: make([]api.Event, many)}
	for i := range many {
		f.Events[i] = api.Event{In: true, Due: -1}
		f.Ties = append(f.Ties, condition(i, i+1, 1), response(0, i, i), exclude(0, i))
	}
	var m, done, tick []api.Mark
	var all []int
	var e1, e2 api.Errno
	soon(t, "Start", func() { m = mark.Start(f) })
	soon(t, "All", func() { all = mark.All(f, m) })
	soon(t, "Do", func() { done, e1 = mark.Do(f, m, 0) })
	soon(t, "Tick", func() { tick, e2 = mark.Tick(f, done) })
	if len(m) != many || m[many-1] != in(-1, -1) || !slices.Equal(all, []int{0}) {
		t.Errorf("%d, %v", len(m), all)
	}
	if len(done) != many || done[0] != out(0, 0) || done[many-1] != out(-1, many-1) || e1 != api.OK {
		t.Errorf("%d, %d", len(done), e1)
	}
	if len(tick) != many || tick[0] != out(1, 0) || tick[many-1] != out(-1, many-1) || e2 != api.OK {
		t.Errorf("%d, %d", len(tick), e2)
	}
	soon(t, "the others", func() {
		if !mark.Fits(f, m) || mark.Enabled(f, m, many-1) || !mark.Enabled(f, m, 0) || !mark.Accepting(f, m) {
			t.Error("large")
		}
		if mark.Slack(f, m) != api.Never || !mark.Same(m, slices.Clone(m)) || mark.Same(m, done) {
			t.Error("large")
		}
		if len(mark.All(f, done)) != 0 {
			t.Error("large")
		}
	})
	// All at once is held up by very many, and by none of them.
	var held flat.Flat
	held.Events = f.Events
	for i := range many {
		held.Ties = append(held.Ties, condition(many-1, i, 0), milestone(i, many-1))
	}
	soon(t, "All of what is held up", func() { all = mark.All(held, m) })
	if len(all) != 0 {
		t.Errorf("%d", len(all))
	}
	m[many-1] = in(0, -1)
	soon(t, "All of what isn't", func() { all = mark.All(held, m) })
	if len(all) != many || all[many-1] != many-1 {
		t.Errorf("%d", len(all))
	}
}

func BenchmarkDo(b *testing.B) {
	f := tied(80)
	for i := range 8000 {
		f.Ties = append(f.Ties, flat.Tie{Kind: 1 + i%5, From: i / 5 % 80, To: i / 400 * 4, Time: i % 9})
	}
	m := make([]api.Mark, 80)
	for i := range m {
		m[i] = in(9, -1)
	}
	for b.Loop() {
		mark.Do(f, m, 3)
	}
}
