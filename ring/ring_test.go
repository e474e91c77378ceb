package ring_test

import (
	"math"
	"slices"
	"testing"

	"replevin/ring"
)

func same(a, b [][]int) bool { return slices.EqualFunc(a, b, slices.Equal[[]int]) }

// brief tells the beginning of a list, to be shown.
func brief[T any](l []T) []T { return l[:min(len(l), 99)] }

// noPoints tells what is no point of so many.
func noPoints(many int) []int { return []int{-1, -2, math.MinInt, many, many + 1, math.MaxInt} }

// parts fails unless a net's rings are these.
func parts(t *testing.T, n ring.Net, want ...[]int) {
	t.Helper()
	if l := ring.Rings(n); !same(l, want) {
		t.Errorf("%v: %v, not %v", brief(n), brief(l), brief(want))
	}
}

// reaches fails unless a point leads to these, and loops just if it is one of them.
func reaches(t *testing.T, n ring.Net, from int, want ...int) {
	t.Helper()
	if l := ring.Reach(n, from); !slices.Equal(l, want) {
		t.Errorf("%v, %d: %v, not %v", brief(n), from, brief(l), brief(want))
	}
	if ring.Loops(n, from) != slices.Contains(want, from) {
		t.Errorf("%v, %d: it loops: %v", brief(n), from, !slices.Contains(want, from))
	}
}

// turns fails unless a net the other way round is this.
func turns(t *testing.T, n ring.Net, want ...[]int) {
	t.Helper()
	if l := ring.Turn(n); !same(l, want) {
		t.Errorf("%v: %v, not %v", n, l, want)
	}
}

// P6.1: the chapter's examples.
func TestExamplesRings(t *testing.T) {
	parts(t, ring.Net{{1}, {2}, {1}}, []int{0}, []int{1, 2})
	parts(t, ring.Net{{}, {0}, {0}}, []int{0}, []int{1}, []int{2})
}

// P6.1: a point that leads back nowhere is a ring of itself alone, and so is one that leads to itself by one way.
func TestRingsOfOne(t *testing.T) {
	parts(t, nil)
	parts(t, ring.Net{})
	parts(t, ring.Net{{}}, []int{0})
	parts(t, ring.Net{nil, {}, nil}, []int{0}, []int{1}, []int{2})
	parts(t, ring.Net{{0}}, []int{0})
	parts(t, ring.Net{{0, 0}, {1, 0}, {}}, []int{0}, []int{1}, []int{2})
	parts(t, ring.Net{{1}, {2}, {3}, {}}, []int{0}, []int{1}, []int{2}, []int{3})
	parts(t, ring.Net{{}, {0}, {1}, {2}}, []int{0}, []int{1}, []int{2}, []int{3})
	parts(t, ring.Net{{1, 2}, {3}, {3}, {}}, []int{0}, []int{1}, []int{2}, []int{3})
}

// P6.1: a ring is the greatest set of points of which each leads to each, over others or by one way.
func TestRingsOfMany(t *testing.T) {
	parts(t, ring.Net{{1}, {0}}, []int{0, 1})
	parts(t, ring.Net{{1, 1}, {0, 1, 0}}, []int{0, 1})
	parts(t, ring.Net{{2}, {0}, {1}}, []int{0, 1, 2})
	// Rings that meet in a point are one.
	parts(t, ring.Net{{1}, {0, 2}, {3}, {1}}, []int{0, 1, 2, 3})
	parts(t, ring.Net{{1, 3}, {2}, {0}, {4}, {0}}, []int{0, 1, 2, 3, 4})
	// A ring within a ring, come to by its middle.
	parts(t, ring.Net{{2}, {3, 0}, {1, 3}, {2, 4}, {1, 5}, {}}, []int{0, 1, 2, 3, 4}, []int{5})
	// What leads out of a ring, and what leads into it, isn't in it.
	parts(t, ring.Net{{1}, {2}, {1, 3}, {}}, []int{0}, []int{1, 2}, []int{3})
	parts(t, ring.Net{{3}, {0, 2}, {1, 0}, {0}}, []int{0, 3}, []int{1, 2})
}

// P6.1: rings come by their least points, each one's points rising, wherever a walk begins and whichever is left first.
func TestRingsInOrder(t *testing.T) {
	parts(t, ring.Net{{5}, {4}, {3}, {2}, {1}, {0}}, []int{0, 5}, []int{1, 4}, []int{2, 3})
	parts(t, ring.Net{{4}, {3}, {0}, {5}, {2}, {1}}, []int{0, 2, 4}, []int{1, 3, 5})
	parts(t, ring.Net{{4, 1}, {3}, {0}, {5}, {2}, {1}}, []int{0, 2, 4}, []int{1, 3, 5})
	parts(t, ring.Net{{4}, {3}, {0}, {5}, {2}, {1, 0}}, []int{0, 2, 4}, []int{1, 3, 5})
	parts(t, ring.Net{{6}, {}, {5}, {4}, {3}, {2, 6}, {0, 1}}, []int{0, 6}, []int{1}, []int{2, 5}, []int{3, 4})
}

// P6.1: two rings with ways between them, one way alone, are two; with a way back they are one.
func TestTwoRings(t *testing.T) {
	parts(t, ring.Net{{1}, {0, 2}, {3}, {2}}, []int{0, 1}, []int{2, 3})
	parts(t, ring.Net{{1}, {0}, {3}, {2, 0}}, []int{0, 1}, []int{2, 3})
	parts(t, ring.Net{{1, 2, 3}, {0, 2, 3}, {3}, {2}}, []int{0, 1}, []int{2, 3})
	parts(t, ring.Net{{2, 1}, {3}, {0, 3}, {1}}, []int{0, 2}, []int{1, 3})
	parts(t, ring.Net{{1}, {0, 2}, {3}, {2, 0}}, []int{0, 1, 2, 3})
}

// P6.1: a way to what is no point is none, and a way twice is one.
func TestWaysToNoPoint(t *testing.T) {
	for _, no := range noPoints(3) {
		n := ring.Net{{no, 1, no}, {no}, {no, no}}
		parts(t, n, []int{0}, []int{1}, []int{2})
		reaches(t, n, 0, 1)
		reaches(t, n, 1)
		reaches(t, n, 2)
		turns(t, n, nil, []int{0}, nil)
		ring3 := ring.Net{{no, 1}, {2, no, 2}, {no, 1}}
		parts(t, ring3, []int{0}, []int{1, 2})
		reaches(t, ring3, 0, 1, 2)
		reaches(t, ring3, 1, 1, 2)
		turns(t, ring3, nil, []int{0, 2}, []int{1})
	}
	parts(t, ring.Net{{1, -1}}, []int{0})
	reaches(t, ring.Net{{1, -1}}, 0)
	turns(t, ring.Net{{1, -1}}, nil)
}

// P6.1: all points to which one leads, rising; itself only if it leads back.
func TestReach(t *testing.T) {
	n := ring.Net{{2}, {0}, {1, 3}, {4}, {3}, {4, 4, 6}, {}, {7}}
	reaches(t, n, 0, 0, 1, 2, 3, 4)
	reaches(t, n, 1, 0, 1, 2, 3, 4)
	reaches(t, n, 2, 0, 1, 2, 3, 4)
	reaches(t, n, 3, 3, 4)
	reaches(t, n, 4, 3, 4)
	reaches(t, n, 5, 3, 4, 6)
	reaches(t, n, 6)
	reaches(t, n, 7, 7)
	// Over two ways to the same point, and back to what isn't where it began.
	reaches(t, ring.Net{{2, 1}, {3}, {3}, {2}}, 0, 1, 2, 3)
	reaches(t, ring.Net{{2, 1}, {3}, {3}, {2}}, 1, 2, 3)
	reaches(t, ring.Net{{2, 1}, {3}, {3}, {2}}, 2, 2, 3)
	// Back to itself by the last way, and the last point, alone.
	reaches(t, ring.Net{{1}, {2, 3}, {}, {4}, {2, 0}}, 0, 0, 1, 2, 3, 4)
	reaches(t, ring.Net{{1}, {}}, 0, 1)
	reaches(t, ring.Net{{}, {0, 1, 1}}, 1, 0, 1)
}

// P6.1: what is no point leads nowhere, and doesn't loop.
func TestReachOfNoPoint(t *testing.T) {
	for _, n := range []ring.Net{nil, {}, {{}}, {{0}}, {{0, -1, 1}}, {{1, 2, 3, -1}, {0}, {2}}} {
		for _, no := range noPoints(len(n)) {
			reaches(t, n, no)
		}
	}
}

// P6.1: the ways the other way round, each point's rising, each once, of as many points as before.
func TestTurn(t *testing.T) {
	turns(t, nil)
	turns(t, ring.Net{})
	turns(t, ring.Net{nil}, nil)
	turns(t, ring.Net{nil, {}, nil}, nil, nil, nil)
	turns(t, ring.Net{{0}}, []int{0})
	turns(t, ring.Net{{0, 0, 0}}, []int{0})
	turns(t, ring.Net{{1}, {2}, {1}}, nil, []int{0, 2}, []int{1})
	turns(t, ring.Net{{}, {0}, {0}}, []int{1, 2}, nil, nil)
	turns(t, ring.Net{{2, 1, 0, 1, 2}, {2, 0, 2}, {0, 1, 0}}, []int{0, 1, 2}, []int{0, 2}, []int{0, 1})
	turns(t, ring.Net{{3, 3, 9, -1}, {3, 0, 3}, {-5, 3, 4}, {}}, []int{1}, nil, nil, []int{0, 1, 2})
}
