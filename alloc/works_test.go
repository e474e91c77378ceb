package alloc_test

import (
	"fmt"
	"math"
	"slices"
	"testing"

	"replevin/alloc"
	"replevin/api"
)

// P11.5: all work, by rising Ids, with all eight parts, of what waits and of what is owned.
func TestWorks(t *testing.T) {
	a := made(t, sample())
	if l := a.Works(); len(l) != 0 {
		t.Errorf("%v", l)
	}
	answers(t, "Add", a.Add(7, "r", 3, 1), api.OK)
	answers(t, "Add", a.Add(-2, "q", 0, 4), api.OK)
	answers(t, "Away", a.Away("u", true), api.OK)
	gave(t, a.Assign(9), "7 w, -2 v")
	answers(t, "Add", a.Add(5, "z", 1, 6), api.OK)
	gave(t, a.Escalate(14), "")
	gave(t, a.Escalate(20), "7 x")
	answers(t, "Add", a.Add(6, "q", 9, 20), api.OK)
	want := []alloc.Work{
		{Id: -2, Role: "q", Base: 0, Since: 4, User: "v", Holder: "v", Steps: 2, Given: 20},
		{Id: 5, Role: "z", Base: 1, Since: 6},
		{Id: 6, Role: "q", Base: 9, Since: 20},
		{Id: 7, Role: "r", Base: 3, Since: 1, User: "x", Holder: "u", Steps: 2, Given: 20},
	}
	if l := a.Works(); !slices.Equal(l, want) {
		t.Errorf("%v, not %v", l, want)
	}
	agree(t, a)
}

// puts tells of a work that might be put whether it may be.
type puts struct {
	w    alloc.Work
	want api.Errno
}

// try fails unless each work answers so, each put into an allocator of its own, with these away, in which 1 waits and 2 is v's.
func try(t *testing.T, away []string, l []puts) {
	t.Helper()
	for _, c := range l {
		a := made(t, sample(), away...)
		answers(t, "Put", a.Put(alloc.Work{Id: 1, Role: "r"}), api.OK)
		answers(t, "Put", a.Put(alloc.Work{Id: 2, Role: "q", User: "v", Holder: "v"}), api.OK)
		answers(t, "Put of "+told(c.w), a.Put(c.w), c.want)
		if c.want == api.OK {
			answers(t, "Put of "+told(c.w), a.Put(c.w), api.ErrTwice)
			answers(t, "Cancel", a.Cancel(1), api.OK)
			answers(t, "Cancel", a.Cancel(2), api.OK)
			if l := a.Works(); !slices.Equal(l, []alloc.Work{c.w}) {
				t.Errorf("%v, not %v", l, c.w)
			}
			agree(t, a)
			continue
		}
		are(t, a, "1 r 0 0; 2 q 0 0 v for v +0 @0")
		wait(t, a, 1)
	}
}

// P11.5: work that waits: it may not tell of an owner, nor of what only owned work has.
func TestPutWaits(t *testing.T) {
	try(t, []string{"u"}, []puts{
		{alloc.Work{Id: 3, Role: "r"}, api.OK},
		{alloc.Work{Id: -3, Role: "z", Base: 9, Since: year}, api.OK},
		{alloc.Work{Id: 3, Role: "r", Holder: "u"}, api.ErrArg},
		{alloc.Work{Id: 3, Role: "r", Holder: "v"}, api.ErrArg},
		{alloc.Work{Id: 3, Role: "r", Holder: "none"}, api.ErrArg},
		{alloc.Work{Id: 3, Role: "r", Steps: 1}, api.ErrArg},
		{alloc.Work{Id: 3, Role: "r", Steps: -1}, api.ErrArg},
		{alloc.Work{Id: 3, Role: "r", Steps: least}, api.ErrArg},
		{alloc.Work{Id: 3, Role: "r", Given: 1}, api.ErrArg},
		{alloc.Work{Id: 3, Role: "r", Given: -1}, api.ErrArg},
		{alloc.Work{Id: 3, Role: "r", Holder: "v", Steps: 1, Given: 1}, api.ErrArg},
	})
}

// P11.5: work that is owned: for whom, by whom, how many steps on, and since when.
func TestPutOwned(t *testing.T) {
	try(t, nil, []puts{
		{alloc.Work{Id: 3, Role: "r", User: "u", Holder: "u"}, api.OK},
		{alloc.Work{Id: 3, Role: "r", Base: 9, Since: year, User: "w", Holder: "u", Steps: 1, Given: 8}, api.OK},
		{alloc.Work{Id: 3, Role: "q", User: "x", Holder: "y", Steps: 40, Given: -3}, api.OK},
		{alloc.Work{Id: 3, Role: "r", User: "x", Holder: "u", Steps: math.MaxInt, Given: math.MaxInt}, api.OK},
		{alloc.Work{Id: 3, Role: "r", User: "x", Holder: "u", Given: least}, api.OK},
		{alloc.Work{Id: 3, Role: "r", User: "u", Holder: "u", Steps: -1}, api.ErrArg},
		{alloc.Work{Id: 3, Role: "r", User: "u", Holder: "u", Steps: least}, api.ErrArg},
		{alloc.Work{Id: 3, Role: "r", User: "none", Holder: "none", Steps: -1}, api.ErrArg},
		{alloc.Work{Id: 3, Role: "r", User: "u"}, api.ErrUser},
		{alloc.Work{Id: 3, Role: "r", User: "u", Holder: "none"}, api.ErrUser},
		{alloc.Work{Id: 3, Role: "r", User: "none", Holder: "u"}, api.ErrUser},
		{alloc.Work{Id: 3, Role: "q", User: "u", Holder: "u"}, api.ErrUser},
		{alloc.Work{Id: 3, Role: "r", User: "w", Holder: "w"}, api.ErrUser},
		{alloc.Work{Id: 3, Role: "r", User: "x", Holder: "y"}, api.ErrUser},
		{alloc.Work{Id: 3, Role: "r", User: "v", Holder: "u"}, api.ErrUser},
		{alloc.Work{Id: 3, Role: "r", User: "u", Holder: "v"}, api.ErrUser},
		{alloc.Work{Id: 3, Role: "q", User: "w", Holder: "y"}, api.ErrUser},
		{alloc.Work{Id: 3, Role: "r", User: "u ", Holder: "u"}, api.ErrUser},
	})
}

// P11.5: who owns it is here; for whom it is owned may be away, and who stands between them too, and neither need stand for the other.
func TestPutAway(t *testing.T) {
	try(t, []string{"u", "w", "y"}, []puts{
		{alloc.Work{Id: 3, Role: "r", User: "x", Holder: "u"}, api.OK},
		{alloc.Work{Id: 3, Role: "q", User: "x", Holder: "y", Given: 1}, api.OK},
		{alloc.Work{Id: 3, Role: "r", User: "u", Holder: "u"}, api.ErrUser},
		{alloc.Work{Id: 3, Role: "r", User: "w", Holder: "u", Steps: 1}, api.ErrUser},
		{alloc.Work{Id: 3, Role: "q", User: "y", Holder: "y"}, api.ErrUser},
	})
	try(t, []string{"w"}, []puts{
		{alloc.Work{Id: 3, Role: "r", User: "x", Holder: "u"}, api.OK},
		{alloc.Work{Id: 3, Role: "r", User: "w", Holder: "u", Steps: 1}, api.ErrUser},
	})
}

// P11.5 and R2: which error comes first: as Add tells them, and then what isn't asked of Add.
func TestPutFirstError(t *testing.T) {
	try(t, []string{"u"}, []puts{
		{alloc.Work{Id: 1, Role: "none", Base: 10, Since: -1, Holder: "u", Steps: 1}, api.ErrTwice},
		{alloc.Work{Id: 2, Role: "none", Base: 10, Since: -1, User: "u", Holder: "u", Steps: -1}, api.ErrTwice},
		{alloc.Work{Id: 1, Role: "r"}, api.ErrTwice},
		{alloc.Work{Id: 2, Role: "r", User: "v", Holder: "v"}, api.ErrTwice},
		{alloc.Work{Id: 3, Role: "none", Base: 10, Since: -1, User: "u", Holder: "u", Steps: -1}, api.ErrName},
		{alloc.Work{Id: 3, Role: "", Holder: "u"}, api.ErrName},
		{alloc.Work{Id: 3, Role: "asked"}, api.ErrName},
		{alloc.Work{Id: 3, Role: "r", Base: 10, User: "u", Holder: "u", Steps: -1}, api.ErrRange},
		{alloc.Work{Id: 3, Role: "r", Since: year + 1, Holder: "u"}, api.ErrRange},
		{alloc.Work{Id: 3, Role: "r", Base: -1, User: "v", Holder: "v"}, api.ErrRange},
		{alloc.Work{Id: 3, Role: "r", Since: -1, User: "v", Holder: "v"}, api.ErrRange},
		{alloc.Work{Id: 3, Role: "r", Since: least, User: "u", Holder: "u"}, api.ErrRange},
		{alloc.Work{Id: 3, Role: "r", User: "u", Holder: "q", Steps: -1}, api.ErrArg},
		{alloc.Work{Id: 3, Role: "r", User: "u", Holder: "u"}, api.ErrUser},
	})
}

// P11.5: as much work as may be, and one more, be it waiting or owned.
func TestPutMany(t *testing.T) {
	a := full(t)
	was := state(a)
	for _, c := range []puts{
		{alloc.Work{Id: most, Role: "r"}, api.ErrMany},
		{alloc.Work{Id: most, Role: "r", User: "u", Holder: "u"}, api.ErrMany},
		{alloc.Work{Id: most, Role: "r", Base: 10, User: "none", Steps: -1}, api.ErrMany},
		{alloc.Work{Id: most, Role: "r", Holder: "u"}, api.ErrMany},
		{alloc.Work{Id: most, Role: "none"}, api.ErrName},
		{alloc.Work{Id: 1, Role: "r"}, api.ErrTwice},
		{alloc.Work{Id: most - 1, Role: "none"}, api.ErrTwice},
	} {
		answers(t, "Put of "+told(c.w), a.Put(c.w), c.want)
	}
	are(t, a, was)
	b := made(t, sample())
	for _, w := range a.Works() {
		answers(t, "Put of "+told(w), b.Put(w), api.OK)
	}
	are(t, b, was)
	answers(t, "Add", b.Add(most, "r", 0, 0), api.ErrMany)
	answers(t, "Cancel", b.Cancel(0), api.OK)
	answers(t, "Put", b.Put(alloc.Work{Id: most, Role: "r", User: "u", Holder: "u"}), api.OK)
	answers(t, "Put", b.Put(alloc.Work{Id: 0, Role: "r"}), api.ErrMany)
	if len(b.Works()) != most {
		t.Errorf("%d", len(b.Works()))
	}
}

// P11.5: what is put goes on as what was added, and given: it counts, it is given on by its steps and moment, and waits again as it did.
func TestPutGoesOn(t *testing.T) {
	a := made(t, sample())
	for _, w := range []alloc.Work{
		{Id: 1, Role: "r", Base: 1, Since: 2, User: "u", Holder: "u", Given: 10},
		{Id: 2, Role: "r", Base: 2, Since: 2, User: "w", Holder: "u", Steps: 1, Given: 11},
		{Id: 3, Role: "r", Base: 3, Since: 2, User: "w", Holder: "u", Steps: 0, Given: 11},
		{Id: 4, Role: "r", Base: 4, Since: 2},
	} {
		answers(t, "Put of "+told(w), a.Put(w), api.OK)
	}
	gave(t, a.Assign(12), "4 v")
	gave(t, a.Escalate(14), "")
	gave(t, a.Escalate(15), "1 w")
	gave(t, a.Escalate(16), "2 x")
	are(t, a, "1 r 1 2 w for u +1 @15; 2 r 2 2 x for u +2 @16; 3 r 3 2 w for u +1 @16; 4 r 4 2 v for v +0 @12")
	answers(t, "Away", a.Away("w", true), api.OK)
	answers(t, "Finish", a.Finish(2, "x"), api.OK)
	are(t, a, "1 r 1 2; 3 r 3 2; 4 r 4 2 v for v +0 @12")
	wait(t, a, 3, 1)
}

// P11.5: Add is a Put of what waits: both answer alike.
func TestPutAsAdd(t *testing.T) {
	for _, role := range []string{"r", "q", "asked", ""} {
		for _, base := range []int{-1, 0, 9, 10} {
			for _, now := range []int{-1, 0, 5, year, year + 1} {
				for _, id := range []int{0, 1, 2, 3} {
					a, b := three(t), three(t)
					e, other := a.Add(id, role, base, now), b.Put(alloc.Work{Id: id, Role: role, Base: base, Since: now})
					if e != other || state(a) != state(b) || !slices.Equal(a.Waits(), b.Waits()) {
						t.Errorf("%s: %d, %d", fmt.Sprint(id, role, base, now), e, other)
					}
				}
			}
		}
	}
}
