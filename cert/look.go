package cert

import (
	"slices"

	"replevin/api"
	"replevin/flat"
	"replevin/needs"
	"replevin/ring"
)

// maxBound is the greatest bound of a graph that is accepted.
const maxBound = 100000

// The reasons why a graph isn't accepted.
const (
	_ = iota
	mayNotBe
	mayGoOut
	leadsBack
	hasNobody
	tooManySteps
)

// look is one at each of some places; at 0 alone, if it isn't at events.
type look struct {
	reason int
	places []int
	fails  func(at int) bool
}

// chain tells the looks at a graph that may be, in their order.
func chain(g api.Graph, f flat.Flat, bound int) []look {
	matters, excluded, net := needs.Matters(f), needs.Excluded(f), needs.Net(f)
	return []look{
		{mayGoOut, matters, func(at int) bool { return slices.Contains(excluded, at) }},
		{leadsBack, matters, func(at int) bool { return ring.Loops(net, at) }},
		{hasNobody, matters, func(at int) bool { return !isStaffed(g.Users, f.Events[at].Role) }},
		{tooManySteps, []int{0}, func(int) bool { return bound > maxBound }},
	}
}

// isStaffed tells whether a user has a role.
func isStaffed(users []api.User, role string) bool {
	return slices.ContainsFunc(users, func(u api.User) bool { return slices.Contains(u.Roles, role) })
}
