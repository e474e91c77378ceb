package alloc_test

import (
	"fmt"
	"math/rand"
	"slices"
	"strconv"
	"strings"
	"testing"
	"time"

	"replevin/alloc"
	"replevin/api"
	"replevin/graph"
	"replevin/staff"
)

// chanceMade tells an allocator of a graph that may be, and what its answers are held against.
func chanceMade(t *testing.T, r *rand.Rand) (*alloc.Alloc, *slow, api.Graph) {
	t.Helper()
	g, step, timeout := chanceGraph(r), r.Intn(12)+1, r.Intn(6)+1
	a, e := alloc.New(g, step, timeout)
	if e != api.OK {
		t.Fatalf("%v: %d", g, e)
	}
	return a, &slow{g.Users, map[string]bool{}, step, timeout, nil}, g
}

// same makes a call of two allocators, and fails unless both answer alike, and are alike behind it.
func same(t *testing.T, do call, a, b teller) string {
	t.Helper()
	got, want := do(a), do(b)
	if got != want {
		t.Fatalf("%s, not %s", got, want)
	}
	if got, want := all(a), all(b); got != want {
		t.Fatalf("%s, not %s", got, want)
	}
	return got
}

// P11.1 to P11.5, of very many calls: all is as the words say, and two allocators stand apart.
func TestManyTurns(t *testing.T) {
	r := rand.New(rand.NewSource(11))
	count := map[string]int{}
	for range 300 {
		a, s, _ := chanceMade(t, r)
		b, q, _ := chanceMade(t, r)
		now := 0
		for range 80 {
			now += r.Intn(3)
			count[same(t, chance(r, now), a, s)]++
			same(t, chance(r, now), b, q)
		}
		if all(a) != all(s) {
			t.Fatalf("%s, not %s", all(a), all(s))
		}
	}
	// That these turns try what they are to try.
	for _, what := range []string{"Add 0", "Add 3", "Add 5", "Add 6", "Put 0", "Put 1", "Put 3", "Put 5", "Put 6", "Put 12", "Release 0", "Release 10", "Release 12", "Finish 0", "Finish 10", "Finish 12", "Cancel 0", "Cancel 10", "Away 0", "Away 10"} {
		if count[what] < 10 {
			t.Errorf("%s: %d", what, count[what])
		}
	}
}

// P11.6: an allocator that gets all works of another one, in whatever order, with the same users away, goes on alike.
func TestGoesOnAlike(t *testing.T) {
	r := rand.New(rand.NewSource(116))
	for range 300 {
		a, s, g := chanceMade(t, r)
		now := 0
		for range r.Intn(60) {
			now += r.Intn(3)
			same(t, chance(r, now), a, s)
		}
		b, e := alloc.New(g, s.step, s.timeout)
		answers(t, "New", e, api.OK)
		for user, away := range s.away {
			answers(t, "Away", b.Away(user, away), api.OK)
		}
		works := a.Works()
		r.Shuffle(len(works), func(i, j int) { works[i], works[j] = works[j], works[i] })
		for _, w := range works {
			answers(t, "Put of "+told(w), b.Put(w), api.OK)
		}
		if all(a) != all(b) {
			t.Fatalf("%s, not %s", all(b), all(a))
		}
		for range 40 {
			now += r.Intn(3)
			same(t, chance(r, now), b, a)
		}
	}
}

// P11.6: each work waits, or is owned by one who may do it and is here.
func TestOwnersMay(t *testing.T) {
	r := rand.New(rand.NewSource(61))
	owned, waits := 0, 0
	for range 200 {
		a, s, g := chanceMade(t, r)
		now := 0
		for range 60 {
			now += r.Intn(3)
			same(t, chance(r, now), a, s)
			who, e := staff.New(g)
			answers(t, "staff.New", e, api.OK)
			for user, away := range s.away {
				answers(t, "staff.Away", who.Away(user, away), api.OK)
			}
			for _, w := range a.Works() {
				switch {
				case w.User == "":
					waits++
				case !who.May(w.User, w.Role) || !who.Here(w.User) || !slices.Contains(who.Holders(w.Role), w.Holder) || !slices.Contains(who.Chain(w.Holder), w.User):
					t.Fatalf("%v, %v away: %s", g.Users, s.away, told(w))
				default:
					owned++
				}
			}
		}
	}
	if owned < 1000 || waits < 1000 {
		t.Errorf("%d, %d", owned, waits)
	}
}

// P11.6: no work is lost, and none is there twice: all that was added, and neither finished nor cancelled, is there as it was added.
func TestNoneLost(t *testing.T) {
	r := rand.New(rand.NewSource(6))
	g := sample()
	a := made(t, g)
	want := map[int]alloc.Work{}
	for now := range 4000 {
		id := r.Intn(300)
		w := alloc.Work{Id: id, Role: []string{"r", "q", "z"}[r.Intn(3)], Base: r.Intn(10), Since: now}
		owner, is := a.Owner(id)
		switch r.Intn(10) {
		case 0, 1, 2:
			if a.Add(id, w.Role, w.Base, now) == api.OK {
				want[id] = w
			}
		case 3:
			a.Assign(now)
		case 4:
			a.Escalate(now)
		case 5, 6:
			a.Away(g.Users[r.Intn(5)].Name, now%2 == 0)
		case 7:
			a.Release(id, owner)
		case 8:
			if a.Finish(id, owner) == api.OK != is {
				t.Errorf("%d: %q", id, owner)
			}
			if is {
				delete(want, id)
			}
		case 9:
			if now%4 == 0 && a.Cancel(id) == api.OK {
				delete(want, id)
			}
		}
		l := a.Works()
		for _, w := range l {
			if was := (alloc.Work{Id: w.Id, Role: w.Role, Base: w.Base, Since: w.Since}); was != want[w.Id] {
				t.Fatalf("%s, not %s", told(w), told(want[w.Id]))
			}
		}
		if len(l) != len(want) {
			t.Fatalf("%d, not %d", len(l), len(want))
		}
		agree(t, a)
	}
	if len(want) < 50 {
		t.Errorf("%d", len(want))
	}
}

// R3: an allocator keeps nothing of the graph that it was made of, and leaves it as it was.
func TestKeepsNoArgument(t *testing.T) {
	g := sample()
	g.Users = slices.Grow(g.Users, 9)
	for at, u := range g.Users {
		g.Users[at].Roles = slices.Grow(u.Roles, 9)
	}
	a, b := made(t, g), made(t, sample())
	adds(t, a, "r", 1)
	answers(t, "Away", a.Away("u", true), api.OK)
	answers(t, "Away", a.Away("u", false), api.OK)
	answers(t, "Cancel", a.Cancel(1), api.OK)
	if !graph.Same(g, sample()) {
		t.Errorf("%v", g)
	}
	for at := range g.Users {
		scribble(g.Users[at].Roles, "s")
	}
	scribble(g.Users, api.User{Name: "none", Roles: []string{"s"}, Sub: "u"})
	scribble(g.Events, api.Event{Name: "v"})
	r := rand.New(rand.NewSource(3))
	for now := range 300 {
		same(t, chance(r, now), a, b)
	}
}

// scribble writes over a list, and over the room behind it.
func scribble[T any](l []T, other T) {
	l = l[:cap(l)]
	for i := range l {
		l[i] = other
	}
}

// R3: no answer shares anything with the allocator, or with another answer.
func TestSharesNothing(t *testing.T) {
	a := three(t)
	was := all(a)
	works, owns, waits := a.Works(), a.Owns("u"), a.Waits()
	keptWorks, keptOwns, keptWaits := slices.Clone(works), slices.Clone(owns), slices.Clone(waits)
	for range 2 {
		scribble(a.Works(), alloc.Work{Id: 3, Role: "z"})
		scribble(a.Owns("u"), 7)
		scribble(a.Waits(), 7)
		_ = append(a.Works(), alloc.Work{Id: 9})
		_ = append(a.Waits(), 9)
		if all(a) != was {
			t.Errorf("%s, not %s", all(a), was)
		}
	}
	if !slices.Equal(works, keptWorks) || !slices.Equal(owns, keptOwns) || !slices.Equal(waits, keptWaits) {
		t.Errorf("%v, %v, %v", works, owns, waits)
	}
	l := a.Escalate(11)
	gave(t, l, "1 w")
	scribble(l, alloc.Given{Id: 2, User: "x"})
	l = a.Assign(11)
	gave(t, l, "3 u")
	kept := slices.Clone(l)
	are(t, a, "1 r 3 4 w for u +1 @11; 2 q 2 5 v for v +1 @11; 3 r 1 6 u for u +0 @11")
	a.Release(3, "u")
	a.Escalate(20)
	if !slices.Equal(l, kept) || !slices.Equal(works, keptWorks) || !slices.Equal(waits, keptWaits) {
		t.Errorf("%v, %v, %v", l, works, waits)
	}
}

// P11.1: allocators of one graph stand apart.
func TestStandApart(t *testing.T) {
	g := sample()
	a, b := made(t, g), made(t, g)
	adds(t, a, "r", 1, 2)
	are(t, b, "")
	adds(t, b, "q", 1)
	answers(t, "Away", a.Away("v", true), api.OK)
	gave(t, b.Assign(3), "1 v")
	gave(t, a.Assign(4), "1 u, 2 u")
	are(t, a, "1 r 0 0 u for u +0 @4; 2 r 0 0 u for u +0 @4")
	are(t, b, "1 q 0 0 v for v +0 @3")
	answers(t, "Finish", a.Finish(1, "u"), api.OK)
	are(t, b, "1 q 0 0 v for v +0 @3")
}

// R4 and R5: the same calls in the same order answer the same, whatever other allocators are told between.
func TestSameAgain(t *testing.T) {
	var was []string
	for turns := range 4 {
		r, other := rand.New(rand.NewSource(44)), rand.New(rand.NewSource(45))
		a, b := made(t, sample()), made(t, sample())
		for now := range 300 {
			for range turns {
				chance(other, now)(b)
			}
			s := chance(r, now)(a) + "\n" + all(a)
			if turns == 0 {
				was = append(was, s)
			} else if s != was[now] {
				t.Fatalf("%s, not %s", s, was[now])
			}
		}
	}
}

// soon fails unless a call ends in a time in which it could be made many times over.
func soon(t *testing.T, what string, call func()) {
	t.Helper()
	ended := make(chan struct{})
	go func() {
		call()
		close(ended)
	}()
	select {
	case <-ended:
	case <-time.After(30 * time.Second):
		t.Fatalf("%s: not soon", what)
	}
}

// longest tells a graph of as many users as may be, of which each but the last one has the next one as Sub, and all hold r.
func longest() api.Graph {
	var g api.Graph
	for at := range 40 {
		u := api.User{Name: "u" + strconv.Itoa(at), Roles: []string{"r"}}
		if at < 39 {
			u.Sub = "u" + strconv.Itoa(at+1)
		}
		g.Users = append(g.Users, u)
	}
	return g
}

// R1: very many calls of as much work, and as many users, as may be.
func TestMostSoon(t *testing.T) {
	a := made(t, longest())
	for id := range most {
		adds(t, a, "r", id)
	}
	soon(t, "Assign, Escalate, Works and Away", func() {
		for now := range 50 {
			if l := a.Assign(now * 50); len(l) != most {
				t.Errorf("%d", len(l))
				return
			}
			if l := a.Escalate(now*50 + 5); len(l) == 0 || len(a.Works()) != most {
				t.Errorf("%d", len(l))
				return
			}
			for at := range 40 {
				a.Away("u"+strconv.Itoa(at), true)
			}
			if l := a.Waits(); len(l) != most {
				t.Errorf("%d", len(l))
				return
			}
			for at := range 40 {
				a.Away("u"+strconv.Itoa(at), false)
			}
		}
	})
	soon(t, "Cancel, Put, Assign, Owner and Release", func() {
		a.Assign(0)
		for i := range 20000 {
			id := i % most
			owner, is := a.Owner(id)
			if a.Release(id, owner) != api.OK || !is || a.Cancel(id) != api.OK || a.Put(alloc.Work{Id: id, Role: "r", User: owner, Holder: owner}) != api.OK {
				t.Errorf("%d", id)
				return
			}
			if len(a.Owns(owner)) == 0 {
				t.Errorf("%d", id)
				return
			}
		}
	})
	agree(t, a)
}

// R1: texts of any length.
func TestLongSoon(t *testing.T) {
	long := strings.Repeat("u", 1<<24)
	a := three(t)
	was := state(a)
	soon(t, "a long text", func() {
		for i := range 10 {
			errors := fmt.Sprint(a.Add(9, long, 0, 0), a.Release(1, long), a.Finish(i+4, long), a.Away(long, true),
				a.Put(alloc.Work{Id: 9, Role: "r", User: long, Holder: "u"}), a.Put(alloc.Work{Id: 9, Role: "r", Holder: long}), len(a.Owns(long)))
			if errors != "5 12 10 10 12 1 0" {
				t.Errorf("%s", errors)
			}
		}
	})
	are(t, a, was)
}
