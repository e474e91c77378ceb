package alloc_test

import (
	"math"
	"testing"

	"replevin/alloc"
	"replevin/api"
)

// P11.2: work goes to who owns less, and, of as little, to who comes first in the graph's order.
func TestAssignLeast(t *testing.T) {
	a := made(t, of("w:r v:q,r u:r"))
	gave(t, a.Assign(0), "")
	adds(t, a, "r", 1, 2, 3, 4)
	gave(t, a.Assign(1), "1 w, 2 v, 3 u, 4 w")
	// Of another role, too: what is owned counts, whatever role it is of.
	adds(t, a, "q", 5)
	gave(t, a.Assign(2), "5 v")
	adds(t, a, "r", 6, 7, 8)
	gave(t, a.Assign(3), "6 u, 7 w, 8 v")
	// What was finished, released or cancelled counts no more.
	answers(t, "Finish", a.Finish(2, "v"), api.OK)
	answers(t, "Cancel", a.Cancel(5), api.OK)
	adds(t, a, "r", 9, 10, 11, 12)
	gave(t, a.Assign(4), "9 v, 10 v, 11 u, 12 w")
	answers(t, "Release", a.Release(12, "w"), api.OK)
	answers(t, "Finish", a.Finish(1, "w"), api.OK)
	gave(t, a.Assign(5), "12 w")
	are(t, a, "3 r 0 0 u for u +0 @1; 4 r 0 0 w for w +0 @1; 6 r 0 0 u for u +0 @3; 7 r 0 0 w for w +0 @3; 8 r 0 0 v for v +0 @3; "+
		"9 r 0 0 v for v +0 @4; 10 r 0 0 v for v +0 @4; 11 r 0 0 u for u +0 @4; 12 r 0 0 w for w +0 @5")
}

// P11.2: what is first in the heap is given first: the heavier, the older, the nearer by its Id.
func TestAssignOrder(t *testing.T) {
	a := made(t, sample())
	for _, w := range []struct{ id, base, now int }{{5, 0, 30}, {4, 0, 0}, {3, 9, 30}, {2, 1, 9}, {1, 1, 10}, {0, 0, 0}} {
		answers(t, "Add", a.Add(w.id, "r", w.base, w.now), api.OK)
	}
	wait(t, a, 3, 2, 0, 1, 4, 5)
	gave(t, a.Assign(8), "3 u, 2 v, 0 u, 1 v, 4 u, 5 v")
	wait(t, a)
	gave(t, a.Assign(9), "")
}

// P11.2: each is owned from the moment on at which it is given, be that ahead of when it waited, or no moment at all.
func TestAssignMoment(t *testing.T) {
	for _, now := range []int{0, 1, 7, year, year + 1, -1, math.MaxInt, least} {
		a := made(t, sample())
		answers(t, "Add", a.Add(1, "q", 2, 7), api.OK)
		gave(t, a.Assign(now), "1 v")
		want := alloc.Work{Id: 1, Role: "q", Base: 2, Since: 7, User: "v", Holder: "v", Given: now}
		if l := a.Works(); len(l) != 1 || l[0] != want {
			t.Errorf("%v, not %v", l, want)
		}
	}
}

// P11.2: while a holder is away, who stands gets the work, for that holder, 0 steps on; what that one owns counts, not what the holder would.
func TestAssignStands(t *testing.T) {
	a := made(t, sample(), "u")
	adds(t, a, "r", 1, 2, 3)
	gave(t, a.Assign(1), "1 w, 2 v, 3 w")
	are(t, a, "1 r 0 0 w for u +0 @1; 2 r 0 0 v for v +0 @1; 3 r 0 0 w for u +0 @1")
	answers(t, "Away", a.Away("u", false), api.OK)
	adds(t, a, "r", 4, 5)
	gave(t, a.Assign(2), "4 u, 5 u")
	// Two steps on in the chain: 0 steps on all the same.
	a = made(t, sample(), "u", "w", "v")
	adds(t, a, "r", 1, 2)
	gave(t, a.Assign(1), "1 x, 2 x")
	are(t, a, "1 r 0 0 x for u +0 @1; 2 r 0 0 x for u +0 @1")
}

// P11.2: one who stands for several holders gets it for the first of them; what it owns of another role counts too.
func TestAssignStandsForSeveral(t *testing.T) {
	a := made(t, of("a>c:r b>c:r c:q d:r"), "a", "b")
	adds(t, a, "q", 1)
	gave(t, a.Assign(1), "1 c")
	adds(t, a, "r", 2, 3, 4)
	gave(t, a.Assign(2), "2 d, 3 c, 4 d")
	are(t, a, "1 q 0 0 c for c +0 @1; 2 r 0 0 d for d +0 @2; 3 r 0 0 c for a +0 @2; 4 r 0 0 d for d +0 @2")
	answers(t, "Away", a.Away("a", false), api.OK)
	answers(t, "Away", a.Away("d", true), api.OK)
	gave(t, a.Assign(3), "2 a, 4 a")
	answers(t, "Away", a.Away("a", true), api.OK)
	gave(t, a.Assign(4), "2 c, 4 c")
	are(t, a, "1 q 0 0 c for c +0 @1; 2 r 0 0 c for a +0 @4; 3 r 0 0 c for a +0 @2; 4 r 0 0 c for a +0 @4")
}

// P11.2: of as little, the holders' order decides, not that of those who stand.
func TestAssignHoldersOrder(t *testing.T) {
	a := made(t, of("s z a>z:r b>s:r"), "a", "b")
	adds(t, a, "r", 1, 2)
	gave(t, a.Assign(1), "1 z, 2 s")
	are(t, a, "1 r 0 0 z for a +0 @1; 2 r 0 0 s for b +0 @1")
}

// P11.2: while nobody stands for any holder it waits on, and what comes behind it is given all the same.
func TestAssignNobody(t *testing.T) {
	a := made(t, sample(), "u", "w", "x", "v")
	answers(t, "Add", a.Add(1, "r", 9, 0), api.OK)
	answers(t, "Add", a.Add(2, "q", 5, 0), api.OK)
	answers(t, "Add", a.Add(3, "z", 1, 0), api.OK)
	gave(t, a.Assign(4), "2 y")
	wait(t, a, 1, 3)
	are(t, a, "1 r 9 0; 2 q 5 0 y for y +0 @4; 3 z 1 0")
	answers(t, "Away", a.Away("y", true), api.OK)
	gave(t, a.Assign(5), "")
	wait(t, a, 1, 2, 3)
	are(t, a, "1 r 9 0; 2 q 5 0; 3 z 1 0")
	answers(t, "Away", a.Away("x", false), api.OK)
	gave(t, a.Assign(6), "1 x, 2 x, 3 x")
	are(t, a, "1 r 9 0 x for u +0 @6; 2 q 5 0 x for y +0 @6; 3 z 1 0 x for x +0 @6")
}

// P11.2: a tick ahead of the timeout nothing is given on, and at it all that is owned for so long, by rising Ids, whatever the heap's order was.
func TestEscalate(t *testing.T) {
	a := made(t, sample())
	answers(t, "Add", a.Add(9, "r", 0, 0), api.OK)
	answers(t, "Add", a.Add(3, "r", 5, 0), api.OK)
	answers(t, "Away", a.Away("v", true), api.OK)
	gave(t, a.Assign(10), "3 u, 9 u")
	answers(t, "Add", a.Add(-7, "r", 0, 0), api.OK)
	gave(t, a.Assign(11), "-7 u")
	gave(t, a.Escalate(14), "")
	gave(t, a.Escalate(least), "")
	are(t, a, "-7 r 0 0 u for u +0 @11; 3 r 5 0 u for u +0 @10; 9 r 0 0 u for u +0 @10")
	gave(t, a.Escalate(15), "3 w, 9 w")
	are(t, a, "-7 r 0 0 u for u +0 @11; 3 r 5 0 w for u +1 @15; 9 r 0 0 w for u +1 @15")
	gave(t, a.Escalate(15), "")
	gave(t, a.Escalate(16), "-7 w")
	gave(t, a.Escalate(21), "-7 x, 3 x, 9 x")
	are(t, a, "-7 r 0 0 x for u +2 @21; 3 r 5 0 x for u +2 @21; 9 r 0 0 x for u +2 @21")
}

// P11.2: at the end of the chain it stays with the same one, which isn't told; but it is owned since then, and a step more.
func TestEscalateEnd(t *testing.T) {
	a := made(t, sample())
	adds(t, a, "z", 1)
	gave(t, a.Assign(0), "1 x")
	gave(t, a.Escalate(5), "")
	are(t, a, "1 z 0 0 x for x +1 @5")
	gave(t, a.Escalate(9), "")
	are(t, a, "1 z 0 0 x for x +1 @5")
	gave(t, a.Escalate(30), "")
	are(t, a, "1 z 0 0 x for x +2 @30")
}

// P11.2: who stands for the next one may be who owns it already, which isn't told; and steps go by the chain, not by who stood.
func TestEscalateStands(t *testing.T) {
	a := made(t, of("a>b:r b>c c>d d"), "a", "b")
	adds(t, a, "r", 1)
	gave(t, a.Assign(0), "1 c")
	gave(t, a.Escalate(5), "")
	are(t, a, "1 r 0 0 c for a +1 @5")
	gave(t, a.Escalate(10), "")
	are(t, a, "1 r 0 0 c for a +2 @10")
	gave(t, a.Escalate(15), "1 d")
	are(t, a, "1 r 0 0 d for a +3 @15")
	gave(t, a.Escalate(20), "")
	are(t, a, "1 r 0 0 d for a +4 @20")
	// One who is back may come behind those that stand further on.
	a = made(t, of("a>b:r b>c c>d d"), "a", "b", "c")
	adds(t, a, "r", 1)
	gave(t, a.Assign(0), "1 d")
	answers(t, "Away", a.Away("b", false), api.OK)
	gave(t, a.Escalate(7), "1 b")
	are(t, a, "1 r 0 0 b for a +1 @7")
}

// P11.2: when nobody stands for the next one it stays as it is: with whom it was, and since when.
func TestEscalateNobody(t *testing.T) {
	a := made(t, sample(), "w", "x")
	adds(t, a, "r", 1, 2)
	gave(t, a.Assign(3), "1 u, 2 v")
	gave(t, a.Escalate(8), "")
	are(t, a, "1 r 0 0 u for u +0 @3; 2 r 0 0 v for v +1 @8")
	answers(t, "Away", a.Away("x", false), api.OK)
	gave(t, a.Escalate(8), "1 x")
	are(t, a, "1 r 0 0 x for u +1 @8; 2 r 0 0 v for v +1 @8")
}

// P11.2: what waits isn't given on, however long it does.
func TestEscalateWaits(t *testing.T) {
	a := made(t, sample())
	adds(t, a, "r", 1)
	gave(t, a.Escalate(1000), "")
	are(t, a, "1 r 0 0")
	gave(t, a.Assign(1000), "1 u")
	answers(t, "Release", a.Release(1, "u"), api.OK)
	gave(t, a.Escalate(5000), "")
	are(t, a, "1 r 0 0")
	// Given again it begins again: 0 steps on, since then.
	gave(t, a.Assign(5000), "1 u")
	gave(t, a.Escalate(5005), "1 w")
	answers(t, "Release", a.Release(1, "w"), api.OK)
	gave(t, a.Assign(5006), "1 u")
	gave(t, a.Escalate(5010), "")
	gave(t, a.Escalate(5011), "1 w")
	are(t, a, "1 r 0 0 w for u +1 @5011")
}

// P11.2: moments as far apart as numbers go, and the greatest number of steps: they aren't taken for less.
func TestEscalateFar(t *testing.T) {
	for _, c := range []struct {
		given, now int
		late       bool
	}{
		{least, math.MaxInt, true}, {least, 0, true}, {least, least + 5, true}, {least, least + 4, false}, {least, least, false},
		{-1, math.MaxInt, true}, {math.MaxInt, least, false}, {math.MaxInt, 0, false}, {1, least, false},
		{math.MaxInt - 5, math.MaxInt, true}, {math.MaxInt - 4, math.MaxInt, false}, {math.MaxInt, math.MaxInt, false},
		{-3, 2, true}, {-3, 1, false},
	} {
		a := made(t, sample())
		w := alloc.Work{Id: 1, Role: "r", User: "u", Holder: "u", Given: c.given}
		answers(t, "Put", a.Put(w), api.OK)
		want := ""
		if c.late {
			want = "1 w"
			w.User, w.Steps, w.Given = "w", 1, c.now
		}
		gave(t, a.Escalate(c.now), want)
		are(t, a, told(w))
	}
	for _, steps := range []int{2, 1000, math.MaxInt - 1, math.MaxInt} {
		a := made(t, sample())
		w := alloc.Work{Id: 1, Role: "r", User: "x", Holder: "u", Steps: steps, Given: 2}
		answers(t, "Put", a.Put(w), api.OK)
		gave(t, a.Escalate(7), "")
		w.Given = 7
		if steps < math.MaxInt {
			w.Steps++
		}
		are(t, a, told(w))
		gave(t, a.Escalate(20), "")
		if l := a.Works(); l[0].User != "x" || l[0].Steps < steps || l[0].Given != 20 {
			t.Errorf("%v", l)
		}
	}
}

// P11.2: what is given on counts for who owns it then.
func TestEscalateCounts(t *testing.T) {
	a := made(t, of("u>v:r v:r"))
	adds(t, a, "r", 1, 2)
	gave(t, a.Assign(0), "1 u, 2 v")
	gave(t, a.Escalate(5), "1 v")
	adds(t, a, "r", 3, 4, 5)
	gave(t, a.Assign(6), "3 u, 4 u, 5 u")
	are(t, a, "1 r 0 0 v for u +1 @5; 2 r 0 0 v for v +1 @5; 3 r 0 0 u for u +0 @6; 4 r 0 0 u for u +0 @6; 5 r 0 0 u for u +0 @6")
}
