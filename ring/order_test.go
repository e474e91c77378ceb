package ring_test

import (
	"math/rand"
	"slices"
	"testing"

	"replevin/api"
	"replevin/ring"
)

// stands fails unless a net's points stand in this order, and its longest chain is so long.
func stands(t *testing.T, n ring.Net, longest int, want ...int) {
	t.Helper()
	if l, e := ring.Order(n); !slices.Equal(l, want) || e != api.OK {
		t.Errorf("%v: %v, %d, not %v", brief(n), brief(l), e, brief(want))
	}
	if k, e := ring.Longest(n); k != longest || e != api.OK {
		t.Errorf("%v: %d, %d, not %d", brief(n), k, e, longest)
	}
}

// refuses fails unless a net has no order, and no longest chain, by an error; beside it there is nothing.
func refuses(t *testing.T, what string, n ring.Net, want api.Errno) {
	t.Helper()
	if l, e := ring.Order(n); len(l) != 0 || e != want {
		t.Errorf("%s: %v, %d, not %d", what, l, e, want)
	}
	if k, e := ring.Longest(n); k != 0 || e != want {
		t.Errorf("%s: %d, %d, not %d", what, k, e, want)
	}
}

// chain tells a net of so many points in which each leads to the next one.
func chain(many int) ring.Net {
	n := make(ring.Net, many)
	for i := range many - 1 {
		n[i] = []int{i + 1}
	}
	return n
}

// P6.2: the chapter's examples.
func TestExamplesOrder(t *testing.T) {
	refuses(t, "0 to 1, 1 to 2, 2 to 1", ring.Net{{1}, {2}, {1}}, api.ErrRing)
	stands(t, ring.Net{{}, {0}, {0}}, 1, 1, 2, 0)
}

// P6.2: each point stands behind all that lead to it; of those that may stand next always the least.
func TestOrder(t *testing.T) {
	stands(t, nil, 0)
	stands(t, ring.Net{}, 0)
	stands(t, ring.Net{{}}, 0, 0)
	stands(t, ring.Net{nil, {}, nil, {}}, 0, 0, 1, 2, 3)
	stands(t, ring.Net{{1}, {2}, {3}, {}}, 3, 0, 1, 2, 3)
	stands(t, ring.Net{{}, {0}, {1}, {2}}, 3, 3, 2, 1, 0)
	// A lesser point that has become free stands ahead of a greater one that was free before.
	stands(t, ring.Net{{}, {}, {0}, {1}}, 1, 2, 0, 3, 1)
	stands(t, ring.Net{{}, {0}, {}, {1}, {}}, 2, 2, 3, 1, 0, 4)
	stands(t, ring.Net{{4}, {4}, {}, {}, {3}}, 2, 0, 1, 2, 4, 3)
	// It waits for the last one that leads to it.
	stands(t, ring.Net{{1}, {}, {1}, {1, 4}, {1}}, 2, 0, 2, 3, 4, 1)
	stands(t, ring.Net{{5, 3}, {3}, {4, 0}, {}, {0, 1}, {1}}, 5, 2, 4, 0, 5, 1, 3)
}

// P6.2: a way twice is one, and a way to what is no point is none.
func TestOrderOfOddWays(t *testing.T) {
	stands(t, ring.Net{{3, 3, 9, -1}, {}, {1}, {2}}, 3, 0, 3, 2, 1)
	stands(t, ring.Net{{2, 1, 2, 2}, {2, 2}, {}}, 2, 0, 1, 2)
	for _, no := range noPoints(3) {
		stands(t, ring.Net{{no, no}, {0, no, 0}, {no, 1, no}}, 2, 2, 1, 0)
		stands(t, ring.Net{{no}, {no}, {no}}, 0, 0, 1, 2)
		refuses(t, "odd ways", ring.Net{{no, 2}, {no}, {0, no}}, api.ErrRing)
	}
}

// P6.2: a point that leads back to itself, by one way or over others, wherever it stands.
func TestOrderOfRings(t *testing.T) {
	refuses(t, "itself", ring.Net{{0}}, api.ErrRing)
	for many := 1; many < 6; many++ {
		for at := range many {
			n := make(ring.Net, many)
			n[at] = []int{at}
			refuses(t, "itself of some", n, api.ErrRing)
			n = chain(many)
			n[many-1] = []int{at}
			refuses(t, "the end of a chain", n, api.ErrRing)
		}
	}
	refuses(t, "two rings", ring.Net{{1}, {0}, {3}, {2}}, api.ErrRing)
}

// P6.2: 200 points have an order, 201 have none; a ring is told first.
func TestOrderOfHowMany(t *testing.T) {
	var all []int
	for i := range 200 {
		all = append(all, i)
	}
	stands(t, make(ring.Net, 200), 0, all...)
	stands(t, chain(200), 199, all...)
	back := ring.Turn(chain(200))
	slices.Reverse(all)
	stands(t, back, 199, all...)
	for _, many := range []int{201, 202, 5000} {
		refuses(t, "no ways", make(ring.Net, many), api.ErrMany)
		refuses(t, "a chain", chain(many), api.ErrMany)
		for _, at := range []int{0, 1, 199, 200, many - 1} {
			n := make(ring.Net, many)
			n[at] = []int{at}
			refuses(t, "many, and itself", n, api.ErrRing)
			n = chain(many)
			n[many-1] = []int{at}
			refuses(t, "many, and a ring", n, api.ErrRing)
		}
	}
	n := chain(200)
	n[199] = []int{0}
	refuses(t, "200 in a ring", n, api.ErrRing)
}

// P6.2: the longest chain, wherever it begins and ends.
func TestLongest(t *testing.T) {
	for many := 1; many < 30; many++ {
		if k, e := ring.Longest(chain(many)); k != many-1 || e != api.OK {
			t.Errorf("%d: %d, %d", many, k, e)
		}
	}
	// Of two chains the shorter begins with the lesser point, or the longer does.
	stands(t, ring.Net{{1}, {}, {3}, {4}, {}}, 2, 0, 1, 2, 3, 4)
	stands(t, ring.Net{{1}, {2}, {}, {4}, {}}, 2, 0, 1, 2, 3, 4)
	// From one point by a short way and a long one, in either order, to one point.
	stands(t, ring.Net{{1, 2}, {3}, {4}, {}, {3}}, 3, 0, 1, 2, 4, 3)
	stands(t, ring.Net{{2, 1}, {3}, {4}, {}, {3}}, 3, 0, 1, 2, 4, 3)
	stands(t, ring.Net{{3, 1}, {2}, {3}, {}}, 3, 0, 1, 2, 3)
	stands(t, ring.Net{{1, 3}, {2}, {3}, {}}, 3, 0, 1, 2, 3)
	// The longest one begins in no first point of the order.
	stands(t, ring.Net{{4}, {2}, {3}, {4}, {5}, {}}, 4, 0, 1, 2, 3, 4, 5)
}

// slowOrder tells, word by word, a net's order: each time the least of those that don't stand yet, and to which none of these leads.
func slowOrder(n ring.Net) []int {
	var order []int
	for range n {
		next := -1
		for at := range n {
			free := !slices.Contains(order, at)
			for from := range n {
				free = free && (slices.Contains(order, from) || !slices.Contains(n[from], at))
			}
			if free {
				next = at
				break
			}
		}
		if next < 0 {
			return nil
		}
		order = append(order, next)
	}
	return order
}

// slowLongest tells, word by word, how long the longest chain is from some points on; of a net that has an order.
func slowLongest(n ring.Net, from []int) int {
	longest := 0
	for _, at := range from {
		for _, to := range n[at] {
			if 0 <= to && to < len(n) {
				longest = max(longest, 1+slowLongest(n, []int{to}))
			}
		}
	}
	return longest
}

// P6.2, of very many small nets: it is as the words say.
func TestManySmallOrders(t *testing.T) {
	r := rand.New(rand.NewSource(17))
	orders, rings := 0, 0
	for range 20000 {
		n := chance(r, r.Intn(8), r.Intn(9))
		want := slowOrder(n)
		if len(want) < len(n) {
			refuses(t, "by chance", n, api.ErrRing)
			rings++
			continue
		}
		stands(t, n, slowLongest(n, want), want...)
		orders++
	}
	if orders < 4000 || rings < 4000 {
		t.Errorf("%d, %d", orders, rings)
	}
}
