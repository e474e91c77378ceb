package staff_test

import (
	"math"
	"strings"
	"testing"

	"replevin/staff"
)

// P10.2: the chains of users: without a Sub, in the middle, and such as meet.
func TestChain(t *testing.T) {
	for _, away := range []string{"", "u", "v", "w", "u v", "u v w x y"} {
		s := made(t, sample(), strings.Fields(away)...)
		for user, want := range map[string]string{"u": "u v w", "v": "v w", "w": "w", "x": "x w", "y": "y"} {
			are(t, user, s.Chain(user), want)
		}
		for _, user := range strange() {
			are(t, user, s.Chain(user), "")
		}
	}
}

// P10.2: a chain goes by names, however the users stand.
func TestChainOrder(t *testing.T) {
	for _, text := range []string{"a>b b>c c>d d", "d c>d b>c a>b", "c>d a>b d b>c"} {
		s := made(t, of(text))
		for user, want := range map[string]string{"a": "a b c d", "b": "b c d", "c": "c d", "d": "d"} {
			are(t, text, s.Chain(user), want)
		}
	}
}

// P10.2: the longest chain that may be, from each of its users on.
func TestLongestChain(t *testing.T) {
	g := longest()
	s := made(t, g)
	var want []string
	for at := 39; at >= 0; at-- {
		want = append([]string{name(at)}, want...)
		are(t, name(at), s.Chain(name(at)), strings.Join(want, " "))
	}
	for steps := range 50 {
		next(t, s, name(0), steps, name(min(steps, 39)))
		next(t, s, name(7), steps, name(min(7+steps, 39)))
	}
	// One after the other goes away, till nobody stands for the first.
	for at := range 40 {
		stands(t, s, name(0), name(at))
		stands(t, s, name(at), name(at))
		stands(t, s, name(39), name(39))
		goes(t, s, name(at), true, 0)
	}
	stands(t, s, name(0), "")
	goes(t, s, name(39), false, 0)
	stands(t, s, name(0), name(39))
}

// stands fails unless that one stands for a user.
func stands(t *testing.T, s *staff.Staff, user, want string) {
	t.Helper()
	if got := s.For(user); got != want {
		t.Errorf("%.40q: %q, not %q", user, got, want)
	}
}

// next fails unless that one is so many steps on.
func next(t *testing.T, s *staff.Staff, user string, steps int, want string) {
	t.Helper()
	if got := s.Next(user, steps); got != want {
		t.Errorf("%.40q, %d: %q, not %q", user, steps, got, want)
	}
}

// P10.2: who stands for a user, while some are away.
func TestFor(t *testing.T) {
	for away, want := range map[string]map[string]string{
		"":          {"u": "u", "v": "v", "w": "w", "x": "x", "y": "y"},
		"u":         {"u": "v", "v": "v", "w": "w", "x": "x", "y": "y"},
		"u v":       {"u": "w", "v": "w", "w": "w", "x": "x", "y": "y"},
		"u v w":     {"u": "", "v": "", "w": "", "x": "x", "y": "y"},
		"v":         {"u": "u", "v": "w", "w": "w", "x": "x", "y": "y"},
		"w":         {"u": "u", "v": "v", "w": "", "x": "x", "y": "y"},
		"u w":       {"u": "v", "v": "v", "w": "", "x": "x", "y": "y"},
		"v w":       {"u": "u", "v": "", "w": "", "x": "x", "y": "y"},
		"x":         {"u": "u", "v": "v", "w": "w", "x": "w", "y": "y"},
		"x w":       {"u": "u", "v": "v", "w": "", "x": "", "y": "y"},
		"y":         {"u": "u", "v": "v", "w": "w", "x": "x", "y": ""},
		"u v w x y": {"u": "", "v": "", "w": "", "x": "", "y": ""},
	} {
		s := made(t, sample(), strings.Fields(away)...)
		for user, one := range want {
			stands(t, s, user, one)
		}
		for _, user := range strange() {
			stands(t, s, user, "")
		}
	}
}

// P10.2: who is some steps on, be it here or away.
func TestNext(t *testing.T) {
	for _, away := range []string{"", "u", "v", "w", "u v", "u v w x y"} {
		s := made(t, sample(), strings.Fields(away)...)
		for steps, want := range map[int][5]string{
			math.MinInt:     {"u", "v", "w", "x", "y"},
			-math.MaxInt:    {"u", "v", "w", "x", "y"},
			-2:              {"u", "v", "w", "x", "y"},
			-1:              {"u", "v", "w", "x", "y"},
			0:               {"u", "v", "w", "x", "y"},
			1:               {"v", "w", "w", "w", "y"},
			2:               {"w", "w", "w", "w", "y"},
			3:               {"w", "w", "w", "w", "y"},
			4:               {"w", "w", "w", "w", "y"},
			40:              {"w", "w", "w", "w", "y"},
			1 << 32:         {"w", "w", "w", "w", "y"},
			math.MaxInt - 1: {"w", "w", "w", "w", "y"},
			math.MaxInt:     {"w", "w", "w", "w", "y"},
		} {
			for at, user := range []string{"u", "v", "w", "x", "y"} {
				next(t, s, user, steps, want[at])
			}
			for _, user := range strange() {
				next(t, s, user, steps, "")
			}
		}
	}
}
