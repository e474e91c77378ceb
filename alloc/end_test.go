package alloc_test

import (
	"fmt"
	"math"
	"slices"
	"testing"

	"replevin/alloc"
	"replevin/api"
)

// three tells an allocator of 1, which u owns, 2, which v owns, and 3, which waits.
func three(t *testing.T) *alloc.Alloc {
	t.Helper()
	a := made(t, sample())
	answers(t, "Add", a.Add(1, "r", 3, 4), api.OK)
	answers(t, "Add", a.Add(2, "q", 2, 5), api.OK)
	gave(t, a.Assign(6), "1 u, 2 v")
	answers(t, "Add", a.Add(3, "r", 1, 6), api.OK)
	are(t, a, "1 r 3 4 u for u +0 @6; 2 q 2 5 v for v +0 @6; 3 r 1 6")
	return a
}

// P11.3: what is let go waits again as it did: with its role, Base and Since; and another one may own it then.
func TestRelease(t *testing.T) {
	a := three(t)
	answers(t, "Release", a.Release(1, "u"), api.OK)
	are(t, a, "1 r 3 4; 2 q 2 5 v for v +0 @6; 3 r 1 6")
	wait(t, a, 1, 3)
	answers(t, "Release", a.Release(1, "u"), api.ErrNone)
	answers(t, "Release", a.Release(2, "v"), api.OK)
	are(t, a, "1 r 3 4; 2 q 2 5; 3 r 1 6")
	wait(t, a, 1, 2, 3)
	answers(t, "Away", a.Away("u", true), api.OK)
	gave(t, a.Assign(9), "1 w, 2 v, 3 w")
	answers(t, "Release", a.Release(1, "w"), api.OK)
	answers(t, "Release", a.Release(3, "w"), api.OK)
	are(t, a, "1 r 3 4; 2 q 2 5 v for v +0 @9; 3 r 1 6")
	wait(t, a, 1, 3)
}

// P11.3: what is let go behind steps on, and what was put so, waits without them.
func TestReleaseForgets(t *testing.T) {
	a := three(t)
	gave(t, a.Escalate(11), "1 w")
	gave(t, a.Escalate(16), "1 x")
	answers(t, "Release", a.Release(1, "u"), api.ErrUser)
	answers(t, "Release", a.Release(1, "x"), api.OK)
	answers(t, "Put", a.Put(alloc.Work{Id: 0, Role: "r", Base: 3, Since: 4, User: "w", Holder: "u", Steps: 70, Given: -6}), api.OK)
	answers(t, "Release", a.Release(0, "w"), api.OK)
	are(t, a, "0 r 3 4; 1 r 3 4; 2 q 2 5 v for v +2 @16; 3 r 1 6")
	wait(t, a, 0, 1, 3)
}

// P11.3: what was finished, or cancelled, is gone: its Id may be added again.
func TestFinishAndCancel(t *testing.T) {
	for what, end := range map[string]func(a *alloc.Alloc) api.Errno{
		"Finish": func(a *alloc.Alloc) api.Errno { return a.Finish(1, "u") },
		"Cancel": func(a *alloc.Alloc) api.Errno { return a.Cancel(1) },
	} {
		a := three(t)
		answers(t, what, end(a), api.OK)
		are(t, a, "2 q 2 5 v for v +0 @6; 3 r 1 6")
		wait(t, a, 3)
		answers(t, what, end(a), api.ErrNone)
		adds(t, a, "z", 1)
		are(t, a, "1 z 0 0; 2 q 2 5 v for v +0 @6; 3 r 1 6")
		wait(t, a, 3, 1)
		gave(t, a.Escalate(30), "")
		gave(t, a.Assign(30), "3 u, 1 x")
	}
}

// P11.3: what waits is cancelled, but neither released nor finished, by nobody either.
func TestEndWaits(t *testing.T) {
	a := three(t)
	for _, user := range []string{"u", "v", "w", "none", ""} {
		answers(t, "Release", a.Release(3, user), api.ErrNone)
		answers(t, "Finish", a.Finish(3, user), api.ErrNone)
	}
	are(t, a, "1 r 3 4 u for u +0 @6; 2 q 2 5 v for v +0 @6; 3 r 1 6")
	answers(t, "Cancel", a.Cancel(3), api.OK)
	are(t, a, "1 r 3 4 u for u +0 @6; 2 q 2 5 v for v +0 @6")
	wait(t, a)
	answers(t, "Cancel", a.Cancel(3), api.ErrNone)
	gave(t, a.Assign(7), "")
}

// P11.3 and R2: what isn't there, and what another one owns: all is as it was.
func TestEndRefuses(t *testing.T) {
	a := three(t)
	was := state(a)
	for _, id := range []int{0, 4, -1, least, math.MaxInt} {
		for _, user := range []string{"u", "v", "none", ""} {
			answers(t, "Release", a.Release(id, user), api.ErrNone)
			answers(t, "Finish", a.Finish(id, user), api.ErrNone)
		}
		answers(t, "Cancel", a.Cancel(id), api.ErrNone)
		if user, is := a.Owner(id); user != "" || is {
			t.Errorf("%d: %q, %v", id, user, is)
		}
	}
	// Neither one who holds its role nor one who stands in for the owner owns it.
	for _, user := range append(strange(), "v", "w", "x", "y") {
		answers(t, "Release", a.Release(1, user), api.ErrUser)
		answers(t, "Finish", a.Finish(1, user), api.ErrUser)
	}
	answers(t, "Release", a.Release(2, "u"), api.ErrUser)
	answers(t, "Finish", a.Finish(2, "u"), api.ErrUser)
	are(t, a, was)
	wait(t, a, 3)
}

// P11.3: a holder for whom another one owns work doesn't own it.
func TestEndForHolder(t *testing.T) {
	a := made(t, sample(), "u", "v")
	adds(t, a, "r", 1)
	gave(t, a.Assign(1), "1 w")
	answers(t, "Away", a.Away("u", false), api.OK)
	answers(t, "Release", a.Release(1, "u"), api.ErrUser)
	answers(t, "Finish", a.Finish(1, "u"), api.ErrUser)
	answers(t, "Finish", a.Finish(1, "w"), api.OK)
	are(t, a, "")
}

// P11.3: all that a user owns waits again as soon as the user is away, as it did, and nothing else does.
func TestAway(t *testing.T) {
	a := made(t, sample())
	for id, base := range []int{0, 1, 2, 3, 4, 5} {
		answers(t, "Add", a.Add(id, "r", base, 7), api.OK)
	}
	gave(t, a.Assign(8), "5 u, 4 v, 3 u, 2 v, 1 u, 0 v")
	answers(t, "Add", a.Add(6, "r", 2, 2), api.OK)
	answers(t, "Away", a.Away("u", true), api.OK)
	are(t, a, "0 r 0 7 v for v +0 @8; 1 r 1 7; 2 r 2 7 v for v +0 @8; 3 r 3 7; 4 r 4 7 v for v +0 @8; 5 r 5 7; 6 r 2 2")
	wait(t, a, 5, 3, 6, 1)
	answers(t, "Away", a.Away("u", true), api.OK)
	answers(t, "Away", a.Away("u", false), api.OK)
	are(t, a, "0 r 0 7 v for v +0 @8; 1 r 1 7; 2 r 2 7 v for v +0 @8; 3 r 3 7; 4 r 4 7 v for v +0 @8; 5 r 5 7; 6 r 2 2")
	gave(t, a.Assign(9), "5 u, 3 u, 6 u, 1 u")
	answers(t, "Away", a.Away("u", false), api.OK)
	answers(t, "Away", a.Away("v", false), api.OK)
	if l := a.Owns("u"); !slices.Equal(l, []int{1, 3, 5, 6}) {
		t.Errorf("%v", l)
	}
}

// P11.3: one who is away, and owns nothing, lets nothing go: neither what others own for it, nor what it could get.
func TestAwayOwnsNothing(t *testing.T) {
	a := three(t)
	was := state(a)
	for _, user := range []string{"w", "x", "y"} {
		answers(t, "Away", a.Away(user, true), api.OK)
		are(t, a, was)
	}
	a = made(t, sample(), "u", "v")
	adds(t, a, "r", 1)
	gave(t, a.Assign(1), "1 w")
	answers(t, "Away", a.Away("u", true), api.OK)
	are(t, a, "1 r 0 0 w for u +0 @1")
	answers(t, "Away", a.Away("w", true), api.OK)
	are(t, a, "1 r 0 0")
	gave(t, a.Assign(2), "1 x")
}

// P11.3: what was given on waits again when who owns it then is away.
func TestAwayBehindEscalate(t *testing.T) {
	a := three(t)
	gave(t, a.Escalate(11), "1 w")
	answers(t, "Away", a.Away("u", true), api.OK)
	are(t, a, "1 r 3 4 w for u +1 @11; 2 q 2 5 v for v +1 @11; 3 r 1 6")
	answers(t, "Away", a.Away("w", true), api.OK)
	are(t, a, "1 r 3 4; 2 q 2 5 v for v +1 @11; 3 r 1 6")
	wait(t, a, 1, 3)
}

// P11.3 and R2: of no user: ErrNone, and all is as it was.
func TestAwayRefuses(t *testing.T) {
	a := three(t)
	was := state(a)
	for _, user := range strange() {
		for _, away := range []bool{true, false} {
			answers(t, "Away", a.Away(user, away), api.ErrNone)
			are(t, a, was)
		}
	}
	gave(t, a.Assign(7), "3 u")
}

// P11.4: who owns what, and what waits, of what is there and of what isn't.
func TestOwnerOwnsWaits(t *testing.T) {
	a := made(t, sample())
	wait(t, a)
	for _, user := range append(strange(), "u") {
		if l := a.Owns(user); len(l) != 0 {
			t.Errorf("%.40q: %v", user, l)
		}
	}
	for _, id := range []int{9, -2, 40, 7, 0, 3} {
		adds(t, a, "r", id)
	}
	wait(t, a, -2, 0, 3, 7, 9, 40)
	if l := a.Owns(""); len(l) != 0 {
		t.Errorf("%v", l)
	}
	gave(t, a.Assign(0), "-2 u, 0 v, 3 u, 7 v, 9 u, 40 v")
	answers(t, "Release", a.Release(40, "v"), api.OK)
	answers(t, "Add", a.Add(50, "r", 0, 1), api.OK)
	for user, want := range map[string]string{"u": "[-2 3 9]", "v": "[0 7]", "w": "[]", "y": "[]", "": "[]", "none": "[]", "r": "[]"} {
		if got := fmt.Sprint(a.Owns(user)); got != want {
			t.Errorf("%s: %s, not %s", user, got, want)
		}
	}
	for id, want := range map[int]string{-2: "u", 0: "v", 3: "u", 7: "v", 9: "u", 40: "", 50: "", 1: "", least: "", math.MaxInt: ""} {
		if user, is := a.Owner(id); user != want || is != (want != "") {
			t.Errorf("%d: %q, %v", id, user, is)
		}
	}
	wait(t, a, 40, 50)
	agree(t, a)
}
