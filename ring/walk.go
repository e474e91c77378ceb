package ring

import (
	"iter"
	"slices"
)

// maxCalls is how many calls may stand in each other: a chain may be longer than a stack can be deep.
const maxCalls = 1 << 10

func (n Net) has(at int) bool { return 0 <= at && at < len(n) }

// ways tells the points to which one leads by one way, as its ways stand.
func (n Net) ways(at int) iter.Seq[int] {
	return func(yield func(int) bool) {
		for _, to := range n[at] {
			if n.has(to) && !yield(to) {
				return
			}
		}
	}
}

// waits tells of each point how many ways lead to it.
func (n Net) waits() []int {
	waits := make([]int, len(n))
	for at := range n {
		for to := range n.ways(at) {
			waits[to]++
		}
	}
	return waits
}

// leadsBack tells whether any point leads back to itself.
func (n Net) leadsBack() bool {
	for at, head := range n.heads() {
		if head != at || slices.Contains(n[at], at) {
			return true
		}
	}
	return false
}

// heads tells of each point the head of its ring: one of the ring's points, for all of them the same.
func (n Net) heads() []int {
	heads := make([]int, len(n))  // -1: its ring isn't told yet
	marks := make([]int, len(n))  // where a point stands in open
	lowest := make([]int, len(n)) // how low in open it is known to lead
	var open []int
	come := func(at int) {
		heads[at] = -1
		marks[at], lowest[at] = len(open), len(open)
		open = append(open, at)
	}
	way := func(at, to int) {
		if heads[to] < 0 {
			lowest[at] = min(lowest[at], lowest[to])
		}
	}
	leave := func(at int) {
		mark := marks[at]
		if lowest[at] < mark {
			return
		}
		for _, p := range open[mark:] {
			heads[p] = at
		}
		open = open[:mark]
	}
	walk := n.walker(come, way, leave)
	for at := range n {
		walk(at)
	}
	return heads
}

// walker tells a function that goes through a point and all to which it leads, but for those that an earlier call of it went through. It calls come at each point, way at each way once what is behind it was gone through, and leave behind a point's ways.
func (n Net) walker(come func(at int), way func(at, to int), leave func(at int)) func(from int) {
	known := make([]bool, len(n))
	next := make([]int, len(n)) // of each point, the place of the way that it goes next
	var path []int
	goTo := func(at int) {
		known[at] = true
		path = append(path, at)
		come(at)
	}
	var visit func(calls int)
	visit = func(calls int) {
		length := len(path)
		at := path[length-1]
		for ; next[at] < len(n[at]); next[at]++ {
			to := n[at][next[at]]
			if !n.has(to) {
				continue
			}
			if !known[to] {
				goTo(to)
				if calls < maxCalls {
					visit(calls + 1)
				}
				// What is still on the path was cut off: its end is visited first, then this point anew.
				if len(path) > length {
					return
				}
			}
			way(at, to)
		}
		leave(at)
		path = path[:length-1]
	}
	return func(from int) {
		if !n.has(from) || known[from] {
			return
		}
		goTo(from)
		for len(path) > 0 {
			visit(1)
		}
	}
}
