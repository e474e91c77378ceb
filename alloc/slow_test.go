package alloc_test

import (
	"cmp"
	"fmt"
	"math/rand"
	"slices"
	"strings"

	"replevin/alloc"
	"replevin/api"
)

// teller is an allocator, or what its answers are held against.
type teller interface {
	Add(id int, role string, base, now int) api.Errno
	Assign(now int) []alloc.Given
	Escalate(now int) []alloc.Given
	Release(id int, user string) api.Errno
	Finish(id int, user string) api.Errno
	Cancel(id int) api.Errno
	Away(user string, away bool) api.Errno
	Owner(id int) (string, bool)
	Owns(user string) []int
	Waits() []int
	Works() []alloc.Work
	Put(w alloc.Work) api.Errno
}

// slow tells what the words say, looked up anew each time in a list of all work, in no order.
type slow struct {
	users         []api.User
	away          map[string]bool
	step, timeout int
	l             []alloc.Work
}

func (s *slow) chain(user string) []string {
	for _, u := range s.users {
		if u.Name == user {
			return append([]string{user}, s.chain(u.Sub)...)
		}
	}
	return nil
}

// stands tells who stands for a user so many steps on in the chain of one, or "".
func (s *slow) stands(user string, steps int) string {
	l := s.chain(user)
	l = l[min(steps, len(l)-1):]
	l = slices.DeleteFunc(l, func(one string) bool { return s.away[one] })
	return append(l, "")[0]
}

func (s *slow) holders(role string) []string {
	var l []string
	for _, u := range s.users {
		if slices.Contains(u.Roles, role) {
			l = append(l, u.Name)
		}
	}
	return l
}

func (s *slow) at(id int) int {
	return slices.IndexFunc(s.l, func(w alloc.Work) bool { return w.Id == id })
}

func (s *slow) Works() []alloc.Work {
	return slices.SortedFunc(slices.Values(s.l), func(v, w alloc.Work) int { return cmp.Compare(v.Id, w.Id) })
}

func (s *slow) Owner(id int) (string, bool) {
	for _, w := range s.l {
		if w.Id == id && w.User != "" {
			return w.User, true
		}
	}
	return "", false
}

func (s *slow) Owns(user string) []int {
	var l []int
	for _, w := range s.Works() {
		if w.User != "" && w.User == user {
			l = append(l, w.Id)
		}
	}
	return l
}

func (s *slow) Waits() []int {
	waits := slices.DeleteFunc(s.Works(), func(w alloc.Work) bool { return w.User != "" })
	slices.SortStableFunc(waits, func(v, w alloc.Work) int {
		return cmp.Compare(w.Base*s.step-w.Since, v.Base*s.step-v.Since)
	})
	var l []int
	for _, w := range waits {
		l = append(l, w.Id)
	}
	return l
}

func (s *slow) Add(id int, role string, base, now int) api.Errno {
	switch {
	case s.at(id) >= 0:
		return api.ErrTwice
	case len(s.holders(role)) == 0:
		return api.ErrName
	case len(s.l) >= most:
		return api.ErrMany
	case base < 0 || base > 9 || now < 0 || now > year:
		return api.ErrRange
	}
	s.l = append(s.l, alloc.Work{Id: id, Role: role, Base: base, Since: now})
	return api.OK
}

func (s *slow) Put(w alloc.Work) api.Errno {
	if e := s.Add(w.Id, w.Role, w.Base, w.Since); e != api.OK {
		return e
	}
	last := len(s.l) - 1
	e := api.OK
	switch {
	case w.User == "" && w != s.l[last]:
		e = api.ErrArg
	case w.User != "" && w.Steps < 0:
		e = api.ErrArg
	case w.User != "" && (!slices.Contains(s.holders(w.Role), w.Holder) || !slices.Contains(s.chain(w.Holder), w.User) || s.away[w.User]):
		e = api.ErrUser
	}
	s.l[last] = w
	if e != api.OK {
		s.l = s.l[:last]
	}
	return e
}

func (s *slow) Assign(now int) []alloc.Given {
	var l []alloc.Given
	for _, id := range s.Waits() {
		w := &s.l[s.at(id)]
		fewest := most + 1
		for _, holder := range s.holders(w.Role) {
			user := s.stands(holder, 0)
			if many := len(s.Owns(user)); user != "" && many < fewest {
				fewest, w.Holder = many, holder
			}
		}
		if fewest <= most {
			w.User, w.Given = s.stands(w.Holder, 0), now
			l = append(l, alloc.Given{Id: id, User: w.User})
		}
	}
	return l
}

func (s *slow) Escalate(now int) []alloc.Given {
	var l []alloc.Given
	for _, x := range s.Works() {
		w := &s.l[s.at(x.Id)]
		if w.User == "" || now-w.Given < s.timeout {
			continue
		}
		user := s.stands(w.Holder, w.Steps+1)
		if user == "" {
			continue
		}
		w.Steps, w.Given = w.Steps+1, now
		if user != w.User {
			w.User = user
			l = append(l, alloc.Given{Id: w.Id, User: user})
		}
	}
	return l
}

// ends lets work go, or wait again.
func (s *slow) ends(id int, user string, wait bool) api.Errno {
	owner, is := s.Owner(id)
	switch {
	case !is:
		return api.ErrNone
	case owner != user:
		return api.ErrUser
	}
	w := s.l[s.at(id)]
	s.Cancel(id)
	if wait {
		s.Add(w.Id, w.Role, w.Base, w.Since)
	}
	return api.OK
}

func (s *slow) Release(id int, user string) api.Errno { return s.ends(id, user, true) }

func (s *slow) Finish(id int, user string) api.Errno { return s.ends(id, user, false) }

func (s *slow) Cancel(id int) api.Errno {
	at := s.at(id)
	if at < 0 {
		return api.ErrNone
	}
	s.l = slices.Delete(s.l, at, at+1)
	return api.OK
}

func (s *slow) Away(user string, away bool) api.Errno {
	if len(s.chain(user)) == 0 {
		return api.ErrNone
	}
	s.away[user] = away
	if away {
		for _, id := range s.Owns(user) {
			s.Release(id, user)
		}
	}
	return api.OK
}

func names() []string { return strings.Fields("u v w x y a b none") }

func roles() []string { return strings.Fields("p q r s none") }

// chanceGraph tells a graph that may be, of up to 7 users, in any order: each one's Sub is one that was made ahead of it, so that there is no ring.
func chanceGraph(r *rand.Rand) api.Graph {
	l := names()[:7]
	r.Shuffle(len(l), func(i, j int) { l[i], l[j] = l[j], l[i] })
	l = l[:r.Intn(7)+1]
	var g api.Graph
	for at, user := range l {
		u := api.User{Name: user}
		if at > 0 && r.Intn(4) > 0 {
			u.Sub = l[r.Intn(at)]
		}
		for _, role := range roles()[:4] {
			if r.Intn(3) == 0 {
				u.Roles = append(u.Roles, role)
			}
		}
		g.Users = append(g.Users, u)
	}
	r.Shuffle(len(l), func(i, j int) { g.Users[i], g.Users[j] = g.Users[j], g.Users[i] })
	return g
}

func one(r *rand.Rand, l []string) string { return l[r.Intn(len(l))] }

// call is a call, and what it answers of an allocator, as a text.
type call func(a teller) string

// chance tells a call at some moment: one that puts something, or ends it, or gives it; some are refused.
func chance(r *rand.Rand, now int) call {
	id, user, role, base := r.Intn(24)-2, one(r, names()), one(r, roles()), r.Intn(12)-1
	switch what := r.Intn(20); {
	case what < 6:
		return func(a teller) string { return fmt.Sprint("Add ", a.Add(id, role, base, now)) }
	case what < 9:
		return func(a teller) string { return "Assign " + given(a.Assign(now)) }
	case what < 11:
		return func(a teller) string { return "Escalate " + given(a.Escalate(now)) }
	case what < 13:
		away := r.Intn(2) == 0
		return func(a teller) string { return fmt.Sprint("Away ", a.Away(user, away)) }
	case what < 14:
		return func(a teller) string { return fmt.Sprint("Cancel ", a.Cancel(id)) }
	case what < 16:
		return chancePut(r, alloc.Work{Id: id, Role: role, Base: base, Since: now})
	}
	release, owner := r.Intn(2) == 0, r.Intn(4) > 0
	return func(a teller) string {
		if u, is := a.Owner(id); is && owner {
			user = u
		}
		if release {
			return fmt.Sprint("Release ", a.Release(id, user))
		}
		return fmt.Sprint("Finish ", a.Finish(id, user))
	}
}

// chancePut tells a Put of work, most of which is owned.
func chancePut(r *rand.Rand, w alloc.Work) call {
	w.Holder, w.User = one(r, names()), one(r, names())
	switch r.Intn(8) {
	case 0:
		w.User = ""
	case 1:
		w.User, w.Holder = "", ""
	case 2, 3, 4:
		w.User = w.Holder
	}
	if r.Intn(3) == 0 {
		w.Steps, w.Given = r.Intn(5)-1, w.Since-r.Intn(6)
	}
	return func(a teller) string { return fmt.Sprint("Put ", a.Put(w)) }
}

// all tells all that an allocator answers without being changed.
func all(a teller) string {
	var l []string
	for _, w := range a.Works() {
		l = append(l, told(w))
	}
	l = append(l, fmt.Sprint("waits ", a.Waits()))
	for _, user := range append(names(), "") {
		l = append(l, fmt.Sprint(user, " owns ", a.Owns(user)))
	}
	for id := range 26 {
		user, is := a.Owner(id - 3)
		l = append(l, fmt.Sprint(id-3, " ", user, is))
	}
	return strings.Join(l, "\n")
}
