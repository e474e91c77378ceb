package graph

import (
	"slices"

	"replevin/api"
	"replevin/lex"
)

// The parts of a graph, in the order in which they are looked at.
const (
	limits = iota
	groups
	events
	relations
	users
)

const (
	maxGroups    = 40
	maxEvents    = 80
	maxRelations = 300
	maxUsers     = 40
	maxRoles     = 8
)

// Check tells the first thing wrong.
func Check(g api.Graph) (Place, api.Errno) {
	place, e := Place{}, api.OK
	tell := func(part, many int, look func(at int) api.Errno) {
		for at := 0; at < many && e == api.OK; at++ {
			if e = look(at); e != api.OK {
				place = Place{Part: part, At: at}
			}
		}
	}
	l := looker{g: g}
	tell(limits, 1, l.limits)
	// A graph beyond the limits may be of any size: its names aren't gathered.
	if e == api.OK {
		l.gather()
	}
	tell(groups, len(g.Groups), l.group)
	tell(events, len(g.Events), l.event)
	tell(relations, len(g.Relations), l.relation)
	tell(users, len(g.Users), l.user)
	return place, e
}

// looker looks at a graph's parts. Its maps tell where a name, or a relation without its time, stands first.
type looker struct {
	g         api.Graph
	groups    map[string]int
	events    map[string]int
	relations map[api.Relation]int
	users     map[string]int
}

func (l *looker) gather() {
	l.groups = firsts(l.g.Groups, func(p api.Group) string { return p.Name })
	l.events = firsts(l.g.Events, func(v api.Event) string { return v.Name })
	l.relations = firsts(l.g.Relations, timeless)
	l.users = firsts(l.g.Users, func(u api.User) string { return u.Name })
}

// firsts tells for each key the place of the first one in a list that has it.
func firsts[T any, K comparable](list []T, key func(T) K) map[K]int {
	m := make(map[K]int, len(list))
	// Backwards, so that what stays is the first place.
	for i, x := range slices.Backward(list) {
		m[key(x)] = i
	}
	return m
}

// timeless tells what no two relations may have in common.
func timeless(r api.Relation) api.Relation {
	r.Time = 0
	return r
}

// limits looks at how many there are of all things. The limits are one thing, whatever its place.
func (l *looker) limits(int) api.Errno {
	g := l.g
	if len(g.Groups) > maxGroups || len(g.Events) > maxEvents || len(g.Relations) > maxRelations || len(g.Users) > maxUsers {
		return api.ErrMany
	}
	if slices.ContainsFunc(g.Users, func(u api.User) bool { return len(u.Roles) > maxRoles }) {
		return api.ErrMany
	}
	return api.OK
}

func (l *looker) group(at int) api.Errno {
	p := l.g.Groups[at]
	switch {
	case !isName(p.Name):
		return api.ErrName
	case l.groups[p.Name] < at:
		return api.ErrTwice
	case p.Parent != "" && !l.isGroupAhead(p.Parent, at):
		return api.ErrNone
	}
	return api.OK
}

func (l *looker) event(at int) api.Errno {
	v := l.g.Events[at]
	switch {
	case !isName(v.Name) || !isName(v.Role) || v.Group != "" && !isName(v.Group):
		return api.ErrName
	case l.isGroup(v.Name) || l.events[v.Name] < at:
		return api.ErrTwice
	case v.Group != "" && !l.isGroup(v.Group):
		return api.ErrNone
	case v.Due < -1 || v.Due > api.Never:
		return api.ErrRange
	}
	return api.OK
}

func (l *looker) relation(at int) api.Errno {
	r := l.g.Relations[at]
	switch {
	case r.Kind < api.Condition || r.Kind > api.Milestone:
		return api.ErrArg
	case !l.isThere(r.From) || !l.isThere(r.To):
		return api.ErrNone
	case r.Time < 0 || r.Time > longest(r.Kind):
		return api.ErrRange
	case l.relations[timeless(r)] < at:
		return api.ErrTwice
	}
	return api.OK
}

func (l *looker) user(at int) api.Errno {
	u := l.g.Users[at]
	switch {
	case !isName(u.Name) || !areNames(u.Roles):
		return api.ErrName
	case l.users[u.Name] < at || repeats(u.Roles):
		return api.ErrTwice
	case u.Sub != "" && !l.isUser(u.Sub):
		return api.ErrNone
	case l.leadsBack(at):
		return api.ErrRing
	}
	return api.OK
}

// leadsBack tells whether following who stands in for whom leads from a user back to it.
func (l *looker) leadsBack(at int) bool {
	from := at
	// So many steps lead back to whoever is in a ring: those who only lead into one are not met again.
	for range l.g.Users {
		sub := l.g.Users[from].Sub
		// One further on may have no name, or stand for nobody: that is its own fault, and told of it.
		if sub == "" || !l.isUser(sub) {
			return false
		}
		from = l.users[sub]
		if from == at {
			return true
		}
	}
	return false
}

func (l *looker) isGroup(name string) bool {
	_, ok := l.groups[name]
	return ok
}

func (l *looker) isGroupAhead(name string, at int) bool {
	first, ok := l.groups[name]
	return ok && first < at
}

func (l *looker) isThere(name string) bool {
	_, ok := l.events[name]
	return ok || l.isGroup(name)
}

func (l *looker) isUser(name string) bool {
	_, ok := l.users[name]
	return ok
}

// longest tells the greatest time of a relation's kind.
func longest(kind int) int {
	switch kind {
	case api.Condition:
		return api.MaxAge
	case api.Response:
		return api.Never
	}
	return 0
}

// isName tells whether a text may name something: the words of a graph's text may not.
func isName(s string) bool {
	switch s {
	case "group", "event", "role", "in", "excluded", "done", "pending", "due",
		"condition", "response", "include", "exclude", "milestone", "user", "roles", "sub":
		return false
	}
	return lex.Name(s)
}

func areNames(l []string) bool {
	return !slices.ContainsFunc(l, func(s string) bool { return !isName(s) })
}

// repeats tells whether something is twice in a list.
func repeats(l []string) bool {
	for i, s := range l {
		if slices.Contains(l[:i], s) {
			return true
		}
	}
	return false
}
