package alloc_test

import (
	"fmt"
	"math"
	"slices"
	"strings"
	"testing"

	"replevin/alloc"
	"replevin/api"
	"replevin/heap"
	"replevin/staff"
)

const (
	year  = 1 << 40 // the last moment since which work may wait
	most  = 500
	least = math.MinInt
)

// sample tells a graph, anew each time: r is u's and v's, q is v's and y's; the chains are u w x, v alone, w x, x, y x.
func sample() api.Graph {
	return api.Graph{
		Groups: []api.Group{{Name: "g"}},
		Events: []api.Event{{Name: "e", Group: "g", Role: "asked", Due: -1}},
		Users: []api.User{
			{Name: "u", Roles: []string{"r"}, Sub: "w"},
			{Name: "v", Roles: []string{"r", "q"}},
			{Name: "w", Sub: "x"},
			{Name: "x", Roles: []string{"z"}},
			{Name: "y", Roles: []string{"q"}, Sub: "x"},
		},
	}
}

// of tells users, a word each: a name, behind > who stands in, and behind : the roles, with a , between.
func of(text string) api.Graph {
	var g api.Graph
	for _, word := range strings.Fields(text) {
		name, roles, _ := strings.Cut(word, ":")
		name, sub, _ := strings.Cut(name, ">")
		u := api.User{Name: name, Sub: sub}
		if roles != "" {
			u.Roles = strings.Split(roles, ",")
		}
		g.Users = append(g.Users, u)
	}
	return g
}

// strange tells names that no user of the sample has, and roles that none has.
func strange() []string {
	return []string{"", "e", "g", "asked", "none", "U", "R", "u ", "r ", " u", "u w", "r q", "user", "\xff", strings.Repeat("u", 1<<20)}
}

// made tells an allocator of a graph, of the step 10 and the timeout 5, with these away.
func made(t *testing.T, g api.Graph, away ...string) *alloc.Alloc {
	t.Helper()
	a, e := alloc.New(g, 10, 5)
	if e != api.OK || a == nil {
		t.Fatalf("%v: %d", g, e)
	}
	for _, user := range away {
		answers(t, "Away "+user, a.Away(user, true), api.OK)
	}
	return a
}

// answers fails unless a call answered so.
func answers(t *testing.T, call string, e, want api.Errno) {
	t.Helper()
	if e != want {
		t.Errorf("%.60s: %d, not %d", call, e, want)
	}
}

// adds lets work wait, each of a role, from the moment 0 on.
func adds(t *testing.T, a *alloc.Alloc, role string, ids ...int) {
	t.Helper()
	for _, id := range ids {
		answers(t, fmt.Sprint("Add ", id), a.Add(id, role, 0, 0), api.OK)
	}
}

// gave fails unless this was given: of each work its Id, and to whom, with a , between.
func gave(t *testing.T, l []alloc.Given, want string) {
	t.Helper()
	if s := given(l); s != want {
		t.Errorf("%q, not %q", s, want)
	}
}

func given(l []alloc.Given) string {
	var s []string
	for _, x := range l {
		s = append(s, fmt.Sprint(x.Id, " ", x.User))
	}
	return strings.Join(s, ", ")
}

// told tells one work: its Id, role, Base, and Since; and, of what is owned, its owner, for whom, how many steps on, and since when.
func told(w alloc.Work) string {
	s := fmt.Sprint(w.Id, " ", w.Role, " ", w.Base, " ", w.Since)
	if w != (alloc.Work{Id: w.Id, Role: w.Role, Base: w.Base, Since: w.Since}) {
		s += fmt.Sprint(" ", w.User, " for ", w.Holder, " +", w.Steps, " @", w.Given)
	}
	return s
}

// state tells all work, by rising Ids.
func state(a *alloc.Alloc) string {
	var l []string
	for _, w := range a.Works() {
		l = append(l, told(w))
	}
	return strings.Join(l, "; ")
}

// are fails unless this is all work, and Owner, Owns and Waits tell of it as Works does.
func are(t *testing.T, a *alloc.Alloc, want string) {
	t.Helper()
	if s := state(a); s != want {
		t.Errorf("%q, not %q", s, want)
	}
	agree(t, a)
}

// agree fails unless Owner, Owns and Waits tell of all work as Works does.
func agree(t *testing.T, a *alloc.Alloc) {
	t.Helper()
	owns := map[string][]int{"": nil, "none": nil}
	var waits []int
	was := least
	for at, w := range a.Works() {
		if at > 0 && w.Id <= was {
			t.Errorf("%d behind %d", w.Id, was)
		}
		was = w.Id
		owner, is := a.Owner(w.Id)
		if owner != w.User || is != (w.User != "") {
			t.Errorf("%s: %q, %v", told(w), owner, is)
		}
		if is {
			owns[w.User] = append(owns[w.User], w.Id)
		} else {
			waits = append(waits, w.Id)
		}
	}
	for user, ids := range owns {
		if l := a.Owns(user); !slices.Equal(l, ids) {
			t.Errorf("%q: %v, not %v", user, l, ids)
		}
	}
	if l := slices.Sorted(slices.Values(a.Waits())); !slices.Equal(l, waits) {
		t.Errorf("%v, not %v", l, waits)
	}
}

// wait fails unless these wait, the first first.
func wait(t *testing.T, a *alloc.Alloc, want ...int) {
	t.Helper()
	if l := a.Waits(); !slices.Equal(l, want) {
		t.Errorf("%v wait, not %v", l, want)
	}
}

// full tells an allocator of the sample with as much work as may be: 0 to 499, of which half is owned.
func full(t *testing.T) *alloc.Alloc {
	t.Helper()
	a := made(t, sample())
	for id := range most {
		adds(t, a, "r", id)
		if id == most/2-1 {
			a.Assign(3)
		}
	}
	return a
}

// P11.1, P11.2: the chapter's example.
func TestExample(t *testing.T) {
	a := made(t, of("u:r v:r"))
	adds(t, a, "r", 1, 2, 3)
	gave(t, a.Assign(0), "1 u, 2 v, 3 u")
	are(t, a, "1 r 0 0 u for u +0 @0; 2 r 0 0 v for v +0 @0; 3 r 0 0 u for u +0 @0")
}

// P11.1: the edges of the timeout: an allocator without work, which takes that timeout.
func TestNew(t *testing.T) {
	for _, timeout := range []int{1, 2, 5, 1<<20 - 1, 1 << 20} {
		for _, step := range []int{1, 10, 1 << 20} {
			a, e := alloc.New(sample(), step, timeout)
			if a == nil || e != api.OK {
				t.Fatalf("%d, %d: %d", step, timeout, e)
			}
			are(t, a, "")
			wait(t, a)
			gave(t, a.Assign(7), "")
			gave(t, a.Escalate(7), "")
			adds(t, a, "r", 1)
			gave(t, a.Assign(7), "1 u")
			gave(t, a.Escalate(7+timeout-1), "")
			gave(t, a.Escalate(7+timeout), "1 w")
		}
	}
}

// P11.1: the allocator's heap has its step, by which what is added 9, or 10, ticks later, of a Base more, is ahead, or isn't; of as great weights the least Id is.
func TestNewStep(t *testing.T) {
	for step, want := range map[int][]int{10: {2, 1, 3}, 9: {1, 2, 3}, 11: {2, 3, 1}} {
		a, e := alloc.New(sample(), step, 5)
		answers(t, "New", e, api.OK)
		answers(t, "Add 1", a.Add(1, "r", 0, 0), api.OK)
		answers(t, "Add 2", a.Add(2, "r", 1, 9), api.OK)
		answers(t, "Add 3", a.Add(3, "r", 1, 10), api.OK)
		wait(t, a, want...)
	}
}

// P11.1 and R2: what makes no allocator, and which error comes first.
func TestNewRefuses(t *testing.T) {
	twice := sample()
	twice.Users[1].Name = "u"
	ring := sample()
	ring.Users[3].Sub = "u"
	many := sample()
	many.Users = make([]api.User, 41)
	event := sample()
	event.Events[0].Due = -2
	for _, c := range []struct {
		g             api.Graph
		step, timeout int
		want          api.Errno
	}{
		{twice, 10, 5, api.ErrTwice},
		{ring, 10, 5, api.ErrRing},
		{many, 10, 5, api.ErrMany},
		{event, 10, 5, api.ErrRange},
		{of("user"), 10, 5, api.ErrName},
		{of("u>v"), 10, 5, api.ErrNone},
		{ring, 0, 5, api.ErrRing},
		{ring, 10, 0, api.ErrRing},
		{of("user"), 0, 0, api.ErrName},
		{sample(), 0, 5, api.ErrArg},
		{sample(), -1, 5, api.ErrArg},
		{sample(), 1<<20 + 1, 5, api.ErrArg},
		{sample(), least, 5, api.ErrArg},
		{sample(), math.MaxInt, 5, api.ErrArg},
		{sample(), 10, 0, api.ErrArg},
		{sample(), 10, -1, api.ErrArg},
		{sample(), 10, 1<<20 + 1, api.ErrArg},
		{sample(), 10, least, api.ErrArg},
		{sample(), 10, math.MaxInt, api.ErrArg},
		{sample(), 0, 0, api.ErrArg},
		{api.Graph{}, 10, 0, api.ErrArg},
	} {
		if a, e := alloc.New(c.g, c.step, c.timeout); a != nil || e != c.want {
			t.Errorf("%v, %d, %d: %v, %d, not %d", c.g.Users, c.step, c.timeout, a, e, c.want)
		}
		if _, e := staff.New(c.g); e != api.OK && e != c.want {
			t.Errorf("%v: %d", c.g.Users, e)
		}
	}
}

// P11.1: what is added waits, of any Id, and from then on.
func TestAdd(t *testing.T) {
	a := made(t, sample())
	answers(t, "Add", a.Add(4, "r", 9, 20), api.OK)
	answers(t, "Add", a.Add(-4, "q", 0, 0), api.OK)
	answers(t, "Add", a.Add(0, "z", 5, year), api.OK)
	answers(t, "Add", a.Add(least, "r", 0, year), api.OK)
	answers(t, "Add", a.Add(math.MaxInt, "r", 9, 0), api.OK)
	are(t, a, fmt.Sprintf("%d r 0 %d; -4 q 0 0; 0 z 5 %d; 4 r 9 20; %d r 9 0", least, year, year, math.MaxInt))
	wait(t, a, math.MaxInt, 4, -4, 0, least)
}

// P11.1: work of a role waits as long as anybody holds that role, be it here or away.
func TestAddWhileAway(t *testing.T) {
	a := made(t, sample(), "u", "v", "w", "x", "y")
	adds(t, a, "r", 1)
	adds(t, a, "z", 2)
	for _, role := range strange() {
		answers(t, "Add of "+role, a.Add(3, role, 0, 0), api.ErrName)
	}
	for _, user := range []string{"u", "w", "e"} {
		answers(t, "Add of a user", a.Add(3, user, 0, 0), api.ErrName)
	}
	are(t, a, "1 r 0 0; 2 z 0 0")
	empty, e := alloc.New(api.Graph{}, 10, 5)
	answers(t, "New", e, api.OK)
	answers(t, "Add", empty.Add(1, "r", 0, 0), api.ErrName)
	are(t, empty, "")
}

// P11.1: an Id that waits, one that is owned, and one that was there and is gone.
func TestAddTwice(t *testing.T) {
	a := made(t, sample())
	adds(t, a, "r", 1)
	gave(t, a.Assign(2), "1 u")
	adds(t, a, "q", 2)
	for _, id := range []int{1, 2} {
		answers(t, "Add", a.Add(id, "r", 0, 0), api.ErrTwice)
		answers(t, "Add", a.Add(id, "q", 9, 5), api.ErrTwice)
	}
	are(t, a, "1 r 0 0 u for u +0 @2; 2 q 0 0")
	answers(t, "Finish", a.Finish(1, "u"), api.OK)
	answers(t, "Cancel", a.Cancel(2), api.OK)
	are(t, a, "")
	adds(t, a, "z", 1, 2)
	are(t, a, "1 z 0 0; 2 z 0 0")
}

// P11.1: what heap.Put refuses, and what it takes.
func TestAddRange(t *testing.T) {
	for _, c := range []struct {
		base, now int
		want      api.Errno
	}{
		{0, 0, api.OK}, {9, 0, api.OK}, {0, year, api.OK}, {9, year, api.OK},
		{-1, 0, api.ErrRange}, {10, 0, api.ErrRange}, {0, -1, api.ErrRange}, {0, year + 1, api.ErrRange}, {-1, year + 1, api.ErrRange},
		{least, 0, api.ErrRange}, {math.MaxInt, 0, api.ErrRange}, {0, least, api.ErrRange}, {0, math.MaxInt, api.ErrRange},
	} {
		h, _ := heap.New(10)
		answers(t, "heap.Put", h.Put(heap.Item{Id: 8, Base: c.base, Since: c.now}), c.want)
		a := made(t, sample())
		adds(t, a, "r", 7)
		call := fmt.Sprint("Add of ", c.base, ", ", c.now)
		answers(t, call, a.Add(8, "r", c.base, c.now), c.want)
		if c.want == api.OK {
			are(t, a, fmt.Sprintf("7 r 0 0; 8 r %d %d", c.base, c.now))
		} else {
			are(t, a, "7 r 0 0")
		}
	}
}

// P11.1 and R2: the 500th work, and the one after it; what waits and what is owned count, and what is gone doesn't.
func TestAddMany(t *testing.T) {
	a := full(t)
	was := state(a)
	if len(a.Works()) != most || len(a.Waits()) != most/2 || len(a.Owns("u")) != most/4 || len(a.Owns("v")) != most/4 {
		t.Fatalf("%s", was)
	}
	for _, c := range []struct {
		id   int
		role string
		base int
		now  int
		want api.Errno
	}{
		{most, "r", 0, 0, api.ErrMany},
		{-1, "q", 9, year, api.ErrMany},
		{most, "r", 10, 0, api.ErrMany},
		{most, "r", 0, -1, api.ErrMany},
		{most, "none", 0, 0, api.ErrName},
		{most, "", 10, -1, api.ErrName},
		{0, "r", 0, 0, api.ErrTwice},
		{most - 1, "r", 0, 0, api.ErrTwice},
		{0, "none", 10, -1, api.ErrTwice},
	} {
		answers(t, fmt.Sprint("Add ", c), a.Add(c.id, c.role, c.base, c.now), c.want)
	}
	answers(t, "Release", a.Release(0, "u"), api.OK)
	answers(t, "Add", a.Add(most, "r", 0, 0), api.ErrMany)
	gave(t, a.Assign(3)[:1], "0 u")
	answers(t, "Add", a.Add(most, "r", 0, 0), api.ErrMany)
	answers(t, "Finish", a.Finish(0, "u"), api.OK)
	adds(t, a, "r", most)
	answers(t, "Add", a.Add(0, "r", 0, 0), api.ErrMany)
	answers(t, "Cancel", a.Cancel(most), api.OK)
	adds(t, a, "r", 0)
	answers(t, "Add", a.Add(most, "r", 0, 0), api.ErrMany)
	agree(t, a)
}

// R2: of an allocator that isn't full, too, the error that is named first.
func TestAddFirstError(t *testing.T) {
	a := made(t, sample())
	adds(t, a, "r", 1)
	answers(t, "Add", a.Add(1, "none", 10, 0), api.ErrTwice)
	answers(t, "Add", a.Add(1, "r", 10, -1), api.ErrTwice)
	answers(t, "Add", a.Add(2, "none", 10, -1), api.ErrName)
	answers(t, "Add", a.Add(2, "r", 10, -1), api.ErrRange)
	are(t, a, "1 r 0 0")
}
