package staff_test

import (
	"math"
	"math/rand"
	"reflect"
	"slices"
	"strings"
	"testing"
	"time"

	"replevin/api"
	"replevin/graph"
	"replevin/staff"
)

// teller is a staff, or what its answers are held against.
type teller interface {
	Here(user string) bool
	Holders(role string) []string
	Chain(user string) []string
	For(user string) string
	Next(user string, steps int) string
	May(user, role string) bool
	Able(role string) []string
}

// answers is all that is told of a staff.
type answers struct {
	here, may                   map[string]bool
	holders, chains, fors, able map[string]string
	nexts                       map[string][]string
}

func names() []string { return strings.Fields("u v w x y a b c d e none") }

func roles() []string { return strings.Fields("p q r s z none") }

// all tells all that is told of names and roles.
func all(s teller) answers {
	a := answers{
		here: map[string]bool{}, may: map[string]bool{},
		holders: map[string]string{}, chains: map[string]string{}, fors: map[string]string{}, able: map[string]string{},
		nexts: map[string][]string{},
	}
	for _, user := range append(names(), "") {
		a.here[user] = s.Here(user)
		a.chains[user] = strings.Join(s.Chain(user), " ")
		a.fors[user] = s.For(user)
		for steps := -1; steps < 12; steps++ {
			a.nexts[user] = append(a.nexts[user], s.Next(user, steps))
		}
		for _, role := range append(roles(), "") {
			a.may[user+" "+role] = s.May(user, role)
		}
	}
	for _, role := range append(roles(), "") {
		a.holders[role] = strings.Join(s.Holders(role), " ")
		a.able[role] = strings.Join(s.Able(role), " ")
	}
	return a
}

// slow tells of users, and who of them is away, what the words say, looked up anew each time.
type slow struct {
	users []api.User
	away  map[string]bool
}

func (s slow) Chain(user string) []string {
	for _, u := range s.users {
		if u.Name == user {
			return append([]string{user}, s.Chain(u.Sub)...)
		}
	}
	return nil
}

func (s slow) Here(user string) bool { return len(s.Chain(user)) > 0 && !s.away[user] }

func (s slow) For(user string) string {
	l := slices.DeleteFunc(s.Chain(user), func(one string) bool { return s.away[one] })
	return append(l, "")[0]
}

func (s slow) Next(user string, steps int) string {
	l := s.Chain(user)
	if len(l) == 0 {
		return ""
	}
	return l[min(max(steps, 0), len(l)-1)]
}

// chosen tells which users a choice takes, in order.
func (s slow) chosen(takes func(u api.User) bool) []string {
	var l []string
	for _, u := range s.users {
		if takes(u) {
			l = append(l, u.Name)
		}
	}
	return l
}

func (s slow) Holders(role string) []string {
	return s.chosen(func(u api.User) bool { return slices.Contains(u.Roles, role) })
}

func (s slow) May(user, role string) bool {
	leads := func(holder string) bool { return slices.Contains(s.Chain(holder), user) }
	return s.Here(user) && slices.ContainsFunc(s.Holders(role), leads)
}

func (s slow) Able(role string) []string {
	return s.chosen(func(u api.User) bool { return s.May(u.Name, role) })
}

// chance tells a graph that may be, of up to so many users (10 at most), in any order: each one's Sub is one that was made ahead of it, so that there is no ring.
func chance(r *rand.Rand, most int) api.Graph {
	l := names()[:10]
	r.Shuffle(len(l), func(i, j int) { l[i], l[j] = l[j], l[i] })
	l = l[:r.Intn(most+1)]
	var g api.Graph
	for at, user := range l {
		u := api.User{Name: user}
		if at > 0 && r.Intn(5) > 0 {
			u.Sub = l[r.Intn(at)]
		}
		for _, role := range roles()[:5] {
			if r.Intn(5) == 0 {
				u.Roles = append(u.Roles, role)
			}
		}
		g.Users = append(g.Users, u)
	}
	r.Shuffle(len(l), func(i, j int) { g.Users[i], g.Users[j] = g.Users[j], g.Users[i] })
	return g
}

// turn lets somebody, or nobody, be away or here.
func turn(t *testing.T, r *rand.Rand, s *staff.Staff, q slow) {
	t.Helper()
	user, away := names()[r.Intn(len(names()))], r.Intn(3) > 0
	want := api.OK
	if len(q.Chain(user)) == 0 {
		want = api.ErrNone
	} else {
		q.away[user] = away
	}
	goes(t, s, user, away, want)
}

// P10.1, P10.2 and P10.3, of very many staffs: all is as the words say, whoever is away; and two staffs stand apart.
func TestManyTurns(t *testing.T) {
	r := rand.New(rand.NewSource(10))
	for range 300 {
		g := chance(r, 10)
		s, other := made(t, g), made(t, g)
		q, p := slow{g.Users, map[string]bool{}}, slow{g.Users, map[string]bool{}}
		for range 15 {
			if got, want := all(s), all(q); !reflect.DeepEqual(got, want) {
				t.Fatalf("%v, %v: %v, not %v", g.Users, q.away, got, want)
			}
			turn(t, r, s, q)
			turn(t, r, other, p)
		}
		if got, want := all(other), all(p); !reflect.DeepEqual(got, want) {
			t.Fatalf("%v, %v: %v, not %v", g.Users, p.away, got, want)
		}
	}
}

// everyAway calls a function with each choice of users that are away.
func everyAway(users []api.User, call func(away []string)) {
	for choice := range 1 << len(users) {
		var away []string
		for at, u := range users {
			if choice>>at&1 == 1 {
				away = append(away, u.Name)
			}
		}
		call(away)
	}
}

// P10.4: who stands for a holder may; if somebody may, somebody stands for a holder. Of all that may be away.
func TestStandsAndMay(t *testing.T) {
	r := rand.New(rand.NewSource(104))
	some, none := 0, 0
	for range 60 {
		g := chance(r, 7)
		everyAway(g.Users, func(away []string) {
			s := made(t, g, away...)
			for _, role := range roles() {
				somebody := false
				for _, holder := range s.Holders(role) {
					one := s.For(holder)
					somebody = somebody || one != ""
					if one != "" && (!s.May(one, role) || !s.Here(one) || !slices.Contains(s.Able(role), one) || !slices.Contains(s.Chain(holder), one)) {
						t.Fatalf("%v, %v away: %s for %s, %s", g.Users, away, one, holder, role)
					}
				}
				if len(s.Able(role)) > 0 != somebody {
					t.Fatalf("%v, %v away: %s: %v", g.Users, away, role, s.Able(role))
				}
				if somebody {
					some++
				} else {
					none++
				}
			}
		})
	}
	if some < 1000 || none < 1000 {
		t.Errorf("%d, %d", some, none)
	}
}

// P10.4: away, and here again, in whatever order: all is as it was.
func TestAwayAndBack(t *testing.T) {
	g := sample()
	first := all(made(t, g))
	everyAway(g.Users, func(away []string) {
		s := made(t, g, away...)
		was := all(s)
		for _, u := range g.Users {
			here := s.Here(u.Name)
			goes(t, s, u.Name, here, api.OK)
			if reflect.DeepEqual(all(s), was) {
				t.Fatalf("%v: %s makes no difference", away, u.Name)
			}
			goes(t, s, u.Name, !here, api.OK)
			if !reflect.DeepEqual(all(s), was) {
				t.Fatalf("%v: %s isn't as ahead", away, u.Name)
			}
		}
		for _, user := range slices.Backward(away) {
			goes(t, s, user, false, api.OK)
		}
		if !reflect.DeepEqual(all(s), first) {
			t.Fatalf("%v: not as at first", away)
		}
	})
}

// R3: a staff keeps nothing of the graph that it was made of, and leaves it as it was.
func TestKeepsNoArgument(t *testing.T) {
	g := sample()
	g.Users = slices.Grow(g.Users, 9)
	for at, u := range g.Users {
		g.Users[at].Roles = slices.Grow(u.Roles, 9)
	}
	s := made(t, g)
	was := all(s)
	goes(t, s, "v", true, api.OK)
	goes(t, s, "v", false, api.OK)
	if !graph.Same(g, sample()) {
		t.Errorf("%v", g)
	}
	for at := range g.Users {
		scribble(g.Users[at].Roles, "s")
		g.Users[at].Sub = ""
	}
	if !reflect.DeepEqual(all(s), was) {
		t.Error("roles are the graph's")
	}
	scribble(g.Users, api.User{Name: "none", Roles: []string{"z"}, Sub: "u"})
	scribble(g.Events, api.Event{Name: "v"})
	scribble(g.Groups, api.Group{Name: "v"})
	if !reflect.DeepEqual(all(s), was) {
		t.Error("users are the graph's")
	}
}

// P10.1 and R3: staffs of one graph stand apart.
func TestStandApart(t *testing.T) {
	g := sample()
	s, other := made(t, g), made(t, g)
	was := all(other)
	goes(t, s, "u", true, api.OK)
	goes(t, s, "y", true, api.OK)
	if !reflect.DeepEqual(all(other), was) || !reflect.DeepEqual(all(made(t, g)), was) {
		t.Error("who is away in one is away in another")
	}
	isHere(t, s, "v w x", "u y")
	goes(t, other, "w", true, api.OK)
	isHere(t, s, "v w x", "u y")
	isHere(t, other, "u v x y", "w")
}

// scribble writes over a list, and over the room behind it.
func scribble[T any](l []T, other T) {
	l = l[:cap(l)]
	for i := range l {
		l[i] = other
	}
}

// R3: no answer shares anything with the staff, or with another answer.
func TestSharesNothing(t *testing.T) {
	s := made(t, sample(), "x")
	was := all(s)
	for what, tell := range map[string]func() []string{
		"Holders": func() []string { return s.Holders("r") },
		"Chain":   func() []string { return s.Chain("u") },
		"Able":    func() []string { return s.Able("q") },
	} {
		l, kept := tell(), tell()
		want := slices.Clone(kept)
		_ = append(l, "y")
		scribble(l, "y")
		if !slices.Equal(kept, want) || !slices.Equal(tell(), want) || len(want) < 2 {
			t.Errorf("%s: %v, not %v", what, kept, want)
		}
	}
	l := s.Chain("u")
	goes(t, s, "u", true, api.OK)
	goes(t, s, "u", false, api.OK)
	are(t, "u", l, "u v w")
	if !reflect.DeepEqual(all(s), was) {
		t.Error("an answer is the staff's")
	}
}

// R4 and R5: the same calls in the same order answer the same, whatever other staffs are told between.
func TestSameAgain(t *testing.T) {
	var was []answers
	for turns := range 4 {
		s, other := made(t, sample()), made(t, sample())
		r := rand.New(rand.NewSource(44))
		for i := range 40 {
			goes(t, s, names()[r.Intn(5)], r.Intn(2) == 0, api.OK)
			for at := range turns {
				goes(t, other, names()[(i+at)%5], at%2 == 0, api.OK)
			}
			if turns == 0 {
				was = append(was, all(s))
			} else if now := all(s); !reflect.DeepEqual(now, was[i]) {
				t.Fatalf("%v, not %v", now, was[i])
			}
		}
	}
}

// soon fails unless a call ends in a time in which it could be made many times over.
func soon(t *testing.T, what string, call func()) {
	t.Helper()
	ended := make(chan struct{})
	go func() {
		call()
		close(ended)
	}()
	select {
	case <-ended:
	case <-time.After(30 * time.Second):
		t.Fatalf("%s: not soon", what)
	}
}

// R1: very many calls of as large a staff as may be.
func TestLargeSoon(t *testing.T) {
	g := longest()
	s := made(t, g)
	soon(t, "New", func() {
		for range 1000 {
			staff.New(g)
		}
	})
	soon(t, "Away, Here, For and Next", func() {
		for i := range 100000 {
			user := name(i % 40)
			s.Away(user, i/40%2 == 0)
			if s.Here(user) == (i/40%2 == 0) || s.Next(user, math.MaxInt) != name(39) || s.Next(user, math.MinInt) != user {
				t.Errorf("%s", user)
				return
			}
			s.For(user)
		}
	})
	soon(t, "Holders, Chain, May and Able", func() {
		for i := range 10000 {
			user := name(i % 40)
			s.May(user, "r7")
			s.Able("r0")
			if len(s.Holders("r0")) != 39 || len(s.Chain(user)) != 40-i%40 {
				t.Errorf("%s", user)
				return
			}
		}
	})
}

// R1: texts, and graphs, of any length.
func TestLongSoon(t *testing.T) {
	s := made(t, longest())
	long := strings.Repeat("u", 1<<24)
	soon(t, "a long text", func() {
		for range 10 {
			noUser(t, s, long)
			nobodys(t, s, long)
			if s.May(long, "r0") || s.May("u0", long) {
				t.Error("May")
			}
		}
	})
	g := longest()
	g.Users[39].Roles = make([]string, 1<<22)
	soon(t, "a graph of very many", func() {
		if s, e := staff.New(g); s != nil || e != api.ErrMany {
			t.Errorf("%v, %d", s, e)
		}
	})
}
