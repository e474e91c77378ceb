package flat

import (
	"iter"

	"replevin/api"
	"replevin/graph"
)

// told tells the ties of each relation in turn; of relations that meet in two events the same tie again.
func told(g api.Graph) iter.Seq[Tie] {
	return func(yield func(Tie) bool) {
		members := membersByName(g)
		for _, r := range g.Relations {
			for from, to := range pairs(members[r.From], members[r.To]) {
				if !yield(Tie{Kind: r.Kind, From: from, To: to, Time: r.Time}) {
					return
				}
			}
		}
	}
}

// pairs tells each place of one list with each of another one in turn.
func pairs(from, to []int) iter.Seq2[int, int] {
	return func(yield func(int, int) bool) {
		for _, i := range from {
			for _, j := range to {
				if !yield(i, j) {
					return
				}
			}
		}
	}
}

// membersByName tells the events of each name that a relation tells.
func membersByName(g api.Graph) map[string][]int {
	m := map[string][]int{}
	for _, r := range g.Relations {
		for _, name := range []string{r.From, r.To} {
			// Each asking checks the whole graph: a name is asked once.
			if _, ok := m[name]; !ok {
				m[name] = graph.Members(g, name)
			}
		}
	}
	return m
}

// timeless tells what ties that are one have in common.
func timeless(t Tie) Tie {
	t.Time = 0
	return t
}

// stricter tells which of two times holds of ties that are one: a condition asks the longer, a response the sooner. Of other kinds there is but one time.
func stricter(kind, a, b int) int {
	switch kind {
	case api.Condition:
		return max(a, b)
	case api.Response:
		return min(a, b)
	}
	return a
}
