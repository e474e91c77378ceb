package staff_test

import (
	"slices"
	"strings"
	"testing"

	"replevin/staff"
)

// P10.2: who holds a role, in the graph's order, be they here or away; nobody holds one that is only asked.
func TestHolders(t *testing.T) {
	for _, away := range []string{"", "u", "w", "u w", "u v w x y"} {
		s := made(t, sample(), strings.Fields(away)...)
		for role, want := range map[string]string{"r": "u w", "q": "u x", "p": "w y", "s": "x", "z": "y"} {
			are(t, role, s.Holders(role), want)
		}
		for _, role := range []string{"", "asked", "none", "u", "v", "e", "g", "R", "r ", "r q", "\xff", strings.Repeat("r", 1<<20)} {
			nobodys(t, s, role)
		}
	}
	// Neither names' order nor the chains' counts.
	s := made(t, of("z:r m>a:q,r a b>z:q r:a,b,c,d,h,k,q,r"))
	are(t, "r", s.Holders("r"), "z m r")
	are(t, "q", s.Holders("q"), "m b r")
}

// mays fails unless these may do what a role does, in the graph's order, and nobody else, as May and Able tell it.
func mays(t *testing.T, s *staff.Staff, users []string, role, want string) {
	t.Helper()
	are(t, role, s.Able(role), want)
	able := strings.Fields(want)
	for _, user := range users {
		if may := s.May(user, role); may != slices.Contains(able, user) {
			t.Errorf("%.40q, %.40q: %v", user, role, may)
		}
	}
}

// P10.3: who may: a holder, and who stands further on in a holder's chain, while they are here.
func TestMay(t *testing.T) {
	users := append(strange(), "u", "v", "w", "x", "y")
	for away, want := range map[string]map[string]string{
		"":          {"r": "u v w", "q": "u v w x", "p": "w y", "s": "w x", "z": "y"},
		"u":         {"r": "v w", "q": "v w x", "p": "w y", "s": "w x", "z": "y"},
		"v":         {"r": "u w", "q": "u w x", "p": "w y", "s": "w x", "z": "y"},
		"w":         {"r": "u v", "q": "u v x", "p": "y", "s": "x", "z": "y"},
		"x":         {"r": "u v w", "q": "u v w", "p": "w y", "s": "w", "z": "y"},
		"y":         {"r": "u v w", "q": "u v w x", "p": "w", "s": "w x", "z": ""},
		"u v":       {"r": "w", "q": "w x", "p": "w y", "s": "w x", "z": "y"},
		"u w":       {"r": "v", "q": "v x", "p": "y", "s": "x", "z": "y"},
		"u v w":     {"r": "", "q": "x", "p": "y", "s": "x", "z": "y"},
		"w y":       {"r": "u v", "q": "u v x", "p": "", "s": "x", "z": ""},
		"u v w x y": {"r": "", "q": "", "p": "", "s": "", "z": ""},
	} {
		s := made(t, sample(), strings.Fields(away)...)
		for role, able := range want {
			mays(t, s, users, role, able)
		}
		for _, role := range []string{"", "asked", "none", "u", "R", "r ", "\xff"} {
			mays(t, s, users, role, "")
		}
	}
}

// P10.3: who stands in may do what those ahead in the chain may, and not the other way round.
func TestMayOneWay(t *testing.T) {
	s := made(t, of("a>b:ra b>c:rb c>d:rc d:rd o>d:ro"))
	users := []string{"a", "b", "c", "d", "o", ""}
	for role, able := range map[string]string{"ra": "a b c d", "rb": "b c d", "rc": "c d", "rd": "d", "ro": "d o"} {
		mays(t, s, users, role, able)
	}
}

// P10.3: all who may, each once, in the graph's order, however chains go, and how many of them lead to one.
func TestAbleOrder(t *testing.T) {
	for text, want := range map[string]string{
		"d c>d:r b>c:r a>b:r":               "d c b a",
		"a>b:r b>c:r c>d:r d:r":             "a b c d",
		"z w>k:r m>k:r k>z:r q":             "z w m k",
		"k b>k:r k1 a>b:r c>k:r k2 d>c:r":   "k b a c d",
		"a>c b>c c>e d>e:r e":               "d e",
		"a>b b>c:r c d":                     "b c",
		"e:q d>e:q c>d:r b>c a>b":           "e d c",
		"solo:r other:q":                    "solo",
		"a b c":                             "",
		"a>z:r z>b b>y y>c c>x x>d d>w w e": "a z b y c x d w",
	} {
		g := of(text)
		var users []string
		for _, u := range g.Users {
			users = append(users, u.Name)
		}
		mays(t, made(t, g), users, "r", want)
	}
}

// P10.3: of the longest chain all may what the first does, and nobody but the last what the last does.
func TestMayLongest(t *testing.T) {
	g := longest()
	s := made(t, g)
	var users []string
	for at := range 40 {
		users = append(users, name(at))
	}
	mays(t, s, users, "r0", strings.Join(users, " "))
	mays(t, s, users, "l7", name(39))
	for at := range 39 {
		goes(t, s, name(at), true, 0)
		mays(t, s, users, "r7", strings.Join(users[at+1:], " "))
	}
	goes(t, s, name(39), true, 0)
	mays(t, s, users, "r7", "")
	mays(t, s, users, "l7", "")
}
