package alloc

import (
	"math"
	"slices"

	"replevin/api"
	"replevin/heap"
)

// owned tells the Ids of the owned work that a choice takes, rising.
func (a *Alloc) owned(takes func(w Work) bool) []int {
	var l []int
	for id, w := range a.works {
		if w.User != "" && takes(w) {
			l = append(l, id)
		}
	}
	slices.Sort(l)
	return l
}

// loads tells how much work each user owns.
func (a *Alloc) loads() map[string]int {
	loads := map[string]int{}
	for _, id := range a.owned(func(Work) bool { return true }) {
		loads[a.works[id].User]++
	}
	return loads
}

// least tells, of those who stand for a role's holders, who owns the least work, and for which holder; of nobody "".
func (a *Alloc) least(role string, loads map[string]int) (user, holder string) {
	for _, one := range a.staff.Holders(role) {
		stands := a.staff.For(one)
		if stands != "" && (user == "" || loads[stands] < loads[user]) {
			user, holder = stands, one
		}
	}
	return user, holder
}

// late tells whether work has been owned for the timeout. Put takes any moment: two of them may lie further apart than an int can tell.
func (a *Alloc) late(w Work, now int) bool {
	return now > w.Given && uint(now)-uint(w.Given) >= uint(a.timeout)
}

// further tells one step more. Put takes any number of them: the greatest stays, since below 0 would be the chain's beginning again.
func further(steps int) int { return min(steps, math.MaxInt-1) + 1 }

// mayEnd tells why a user may not end, or let go, work.
func (a *Alloc) mayEnd(id int, user string) api.Errno {
	switch owner, is := a.Owner(id); {
	case !is:
		return api.ErrNone
	case owner != user:
		return api.ErrUser
	}
	return api.OK
}

// wait lets work wait, without an owner.
func (a *Alloc) wait(w Work) {
	a.heap.Put(item(w))
	a.works[w.Id] = Work{Id: w.Id, Role: w.Role, Base: w.Base, Since: w.Since}
}

func item(w Work) heap.Item { return heap.Item{Id: w.Id, Base: w.Base, Since: w.Since} }

// mayPut tells why work may not be there.
func (a *Alloc) mayPut(w Work) api.Errno {
	_, is := a.works[w.Id]
	switch {
	case is:
		return api.ErrTwice
	case len(a.staff.Holders(w.Role)) == 0:
		return api.ErrName
	case len(a.works) == maxWorks:
		return api.ErrMany
	}
	if e := mayWait(w); e != api.OK {
		return e
	}
	return a.mayOwn(w)
}

// mayWait tells heap.Put's error of work. It asks another heap, since work that is owned isn't to come into the allocator's.
func mayWait(w Work) api.Errno {
	h, e := heap.New(1)
	if e != api.OK {
		return e
	}
	return h.Put(item(w))
}

// mayOwn tells why work may not be owned as it tells, or not wait, if nobody owns it.
func (a *Alloc) mayOwn(w Work) api.Errno {
	switch {
	case w.User == "" && (w.Holder != "" || w.Steps != 0 || w.Given != 0):
		return api.ErrArg
	case w.User == "":
		return api.OK
	case w.Steps < 0:
		return api.ErrArg
	case !slices.Contains(a.staff.Holders(w.Role), w.Holder):
		return api.ErrUser
	case !slices.Contains(a.staff.Chain(w.Holder), w.User) || !a.staff.Here(w.User):
		return api.ErrUser
	}
	return api.OK
}
