package mark_test

import (
	"math"
	"slices"
	"testing"

	"replevin/api"
	"replevin/flat"
	"replevin/mark"
	"replevin/text"
)

func condition(from, to, time int) flat.Tie { return flat.Tie{Kind: 1, From: from, To: to, Time: time} }
func response(from, to, time int) flat.Tie  { return flat.Tie{Kind: 2, From: from, To: to, Time: time} }
func include(from, to int) flat.Tie         { return flat.Tie{Kind: 3, From: from, To: to} }
func exclude(from, to int) flat.Tie         { return flat.Tie{Kind: 4, From: from, To: to} }
func milestone(from, to int) flat.Tie       { return flat.Tie{Kind: 5, From: from, To: to} }

// in and out tell a mark of an event that is in, or isn't.
func in(age, due int) api.Mark  { return api.Mark{In: true, Age: age, Due: due} }
func out(age, due int) api.Mark { return api.Mark{Age: age, Due: due} }

// tied tells a Flat of so many events, and these ties.
func tied(events int, ties ...flat.Tie) flat.Flat {
	return flat.Flat{Events: make([]api.Event, events), Ties: ties}
}

// fresh tells so many marks of events that are in, were never done, and aren't pending.
func fresh(many int) []api.Mark { return slices.Repeat([]api.Mark{in(-1, -1)}, many) }

// noPlaces tells what is the place of none of so many.
func noPlaces(many int) []int { return []int{-1, -2, math.MinInt, many, many + 1, math.MaxInt} }

// read tells the Flat of a text's graph.
func read(t *testing.T, s string) flat.Flat {
	t.Helper()
	g, at, e := text.Parse(s)
	if e != api.OK {
		t.Fatalf("%q: %d, %d", s, at, e)
	}
	f, e := flat.Make(g)
	if e != api.OK {
		t.Fatalf("%q: %d", s, e)
	}
	return f
}

// misfits tells markings that don't fit a Flat of three events, by what is wrong.
func misfits() map[string][]api.Mark {
	l := map[string][]api.Mark{
		"none":     nil,
		"too few":  fresh(2),
		"too many": fresh(4),
	}
	for what, v := range map[string]api.Mark{
		"Age -2":         in(-2, -1),
		"Age MinInt":     out(math.MinInt, -1),
		"Age MaxAge + 1": in(api.MaxAge+1, -1),
		"Age MaxInt":     out(math.MaxInt, -1),
		"Due -2":         in(-1, -2),
		"Due MinInt":     out(-1, math.MinInt),
		"Due Never + 1":  in(-1, api.Never+1),
		"Due MaxInt":     out(-1, math.MaxInt),
		"Age and Due":    in(-2, -2),
	} {
		for at, place := range []string{"first", "middle", "last"} {
			m := fresh(3)
			m[at] = v
			l[what+" of the "+place] = m
		}
	}
	return l
}

// P5.1: as many marks as events.
func TestFitsOfHowMany(t *testing.T) {
	for events := range 5 {
		for marks := range 6 {
			if mark.Fits(tied(events), fresh(marks)) != (events == marks) {
				t.Errorf("%d events, %d marks", events, marks)
			}
		}
	}
	if !mark.Fits(flat.Flat{}, nil) || !mark.Fits(flat.Flat{}, []api.Mark{}) || !mark.Fits(flat.Flat{Ties: []flat.Tie{include(0, 0)}}, nil) {
		t.Error("nothing")
	}
}

// P5.1: each Age, and each Due, within its ends, of what is in and of what isn't.
func TestFitsOfEnds(t *testing.T) {
	for _, age := range []int{-1, 0, 1, api.MaxAge - 1, api.MaxAge} {
		for _, due := range []int{-1, 0, 1, api.MaxAge + 1, api.Never - 1, api.Never} {
			if !mark.Fits(tied(2), []api.Mark{in(age, due), out(age, due)}) {
				t.Errorf("Age %d, Due %d", age, due)
			}
		}
	}
	for what, m := range misfits() {
		if mark.Fits(tied(3), m) {
			t.Error(what)
		}
	}
}

// P5.1: what a marking is of doesn't hang on what the events are, nor on ties.
func TestFitsOfAnyEvents(t *testing.T) {
	f := flat.Flat{
		Events: []api.Event{{Name: "", Due: -9}, {Name: "A", Due: math.MaxInt}},
		Ties:   []flat.Tie{{Kind: 7, From: -1, To: 9}, exclude(0, 0)},
	}
	if !mark.Fits(f, []api.Mark{in(0, 0), out(-1, -1)}) || mark.Fits(f, fresh(1)) || mark.Fits(f, fresh(3)) {
		t.Error("of odd events")
	}
}

// P5.1: In and Due as the events have them, Age 0 of what is Done.
func TestStart(t *testing.T) {
	f := read(t, "event a role r; event b role r excluded; event c role r done; event d role r pending;"+
		"event e role r due 0; event f role r excluded done due 1048575; event g role r done due 7;"+
		"exclude a b; response a b 2; condition b a 3;")
	want := []api.Mark{in(-1, -1), out(-1, -1), in(0, -1), in(-1, api.Never), in(-1, 0), out(0, api.Never-1), in(0, 7)}
	if m := mark.Start(f); !slices.Equal(m, want) {
		t.Errorf("%v", m)
	}
	for _, f := range []flat.Flat{{}, tied(0), tied(0, include(0, 0))} {
		if m := mark.Start(f); len(m) != 0 {
			t.Errorf("%v", m)
		}
	}
}

// P5.1: a Due below -1 is -1, above api.Never that; what Start tells fits.
func TestStartOfAnyDue(t *testing.T) {
	for due, want := range map[int]int{
		math.MinInt: -1, -3: -1, -2: -1, -1: -1, 0: 0, 1: 1, api.Never - 1: api.Never - 1,
		api.Never: api.Never, api.Never + 1: api.Never, math.MaxInt: api.Never,
	} {
		f := flat.Flat{Events: []api.Event{{In: true, Due: due}, {Done: true, Due: due}, {In: true, Done: true, Due: due}, {Due: due}}}
		m := mark.Start(f)
		if !slices.Equal(m, []api.Mark{in(-1, want), out(0, want), in(0, want), out(-1, want)}) || !mark.Fits(f, m) {
			t.Errorf("%d: %v", due, m)
		}
	}
}

// enables fails unless All, and Enabled of each place, and Do, take exactly these events for enabled.
func enables(t *testing.T, f flat.Flat, m []api.Mark, want ...int) {
	t.Helper()
	if l := mark.All(f, m); !slices.Equal(l, want) {
		t.Errorf("%v, %v: %v, not %v", f.Ties, m, l, want)
	}
	for at := range m {
		is := slices.Contains(want, at)
		if mark.Enabled(f, m, at) != is {
			t.Errorf("%v, %v: Enabled of %d", f.Ties, m, at)
		}
		switch n, e := mark.Do(f, m, at); {
		case is && (e != api.OK || len(n) != len(m)):
			t.Errorf("%v, %v: Do of %d: %v, %d", f.Ties, m, at, n, e)
		case !is && (e != api.ErrOff || len(n) != 0):
			t.Errorf("%v, %v: Do of %d: %v, %d", f.Ties, m, at, n, e)
		}
	}
	for _, at := range noPlaces(len(m)) {
		if mark.Enabled(f, m, at) {
			t.Errorf("%v, %v: Enabled of %d", f.Ties, m, at)
		}
	}
}

// P5.1: what isn't in isn't enabled, whatever else it is; what is in is, however it was done and is due.
func TestEnabledOfIn(t *testing.T) {
	enables(t, flat.Flat{}, nil)
	enables(t, tied(3), fresh(3), 0, 1, 2)
	enables(t, tied(4), []api.Mark{in(-1, -1), out(-1, -1), in(3, 0), out(3, 0)}, 0, 2)
	enables(t, tied(3), []api.Mark{out(-1, api.Never), out(0, 5), out(api.MaxAge, -1)})
	enables(t, tied(3), []api.Mark{in(-1, api.Never), in(0, 5), in(api.MaxAge, -1)}, 0, 1, 2)
	// What the event was at first is behind it.
	f := flat.Flat{Events: []api.Event{{In: false}, {In: true}}}
	enables(t, f, []api.Mark{in(-1, -1), out(-1, -1)}, 0)
}

// P5.1: a condition holds an event up, as long as what it comes from is in, and was never done, or too late.
func TestEnabledOfCondition(t *testing.T) {
	for _, c := range []struct {
		time int
		from api.Mark
		is   bool
	}{
		{0, in(-1, -1), false}, {0, in(0, -1), true}, {0, in(api.MaxAge, -1), true},
		{2, in(-1, -1), false}, {2, in(0, -1), false}, {2, in(1, -1), false}, {2, in(2, -1), true}, {2, in(3, -1), true},
		{api.MaxAge, in(api.MaxAge-1, -1), false}, {api.MaxAge, in(api.MaxAge, -1), true},
		{0, out(-1, -1), true}, {2, out(-1, -1), true}, {2, out(1, -1), true}, {2, out(2, -1), true}, {2, out(0, 3), true},
		// A condition doesn't ask what is pending.
		{1, in(0, 0), false}, {1, in(1, 0), true}, {1, in(1, api.Never), true},
		// Times that no graph has: below 0 it must be done all the same, above api.MaxAge it never was so long ago.
		{-1, in(-1, -1), false}, {-9, in(-1, -1), false}, {math.MinInt, in(-1, -1), false}, {-1, in(0, -1), true}, {math.MinInt, in(0, -1), true},
		{api.MaxAge + 1, in(api.MaxAge, -1), false}, {math.MaxInt, in(api.MaxAge, -1), false}, {math.MaxInt, out(api.MaxAge, -1), true},
	} {
		f, m, want := tied(3, condition(2, 0, c.time)), []api.Mark{in(-1, -1), out(-1, -1), c.from}, []int{}
		if c.is {
			want = append(want, 0)
		}
		if c.from.In {
			want = append(want, 2)
		}
		enables(t, f, m, want...)
	}
}

// P5.1: a milestone holds an event up, as long as what it comes from is in and pending.
func TestEnabledOfMilestone(t *testing.T) {
	for _, due := range []int{0, 1, api.Never - 1, api.Never} {
		for _, age := range []int{-1, 0, 9} {
			enables(t, tied(2, milestone(0, 1)), []api.Mark{in(age, due), in(-1, -1)}, 0)
			enables(t, tied(2, milestone(0, 1)), []api.Mark{out(age, due), in(-1, -1)}, 1)
			enables(t, tied(2, milestone(0, 1)), []api.Mark{in(age, -1), in(-1, -1)}, 0, 1)
			enables(t, tied(2, milestone(0, 1)), []api.Mark{out(age, -1), in(-1, -1)}, 1)
			enables(t, tied(2, milestone(0, 1)), []api.Mark{in(age, -1), in(age, due)}, 0, 1)
			enables(t, tied(2, flat.Tie{Kind: api.Milestone, From: 0, To: 1, Time: 7}), []api.Mark{in(age, due), in(age, due)}, 0)
		}
	}
}

// P5.1: an event may hold itself up.
func TestEnabledOfItself(t *testing.T) {
	enables(t, tied(1, condition(0, 0, 0)), []api.Mark{in(-1, -1)})
	enables(t, tied(1, condition(0, 0, 0)), []api.Mark{in(0, -1)}, 0)
	enables(t, tied(1, condition(0, 0, 3)), []api.Mark{in(2, -1)})
	enables(t, tied(1, condition(0, 0, 3)), []api.Mark{in(3, -1)}, 0)
	enables(t, tied(1, condition(0, 0, 3)), []api.Mark{out(3, -1)})
	enables(t, tied(1, milestone(0, 0)), []api.Mark{in(0, 4)})
	enables(t, tied(1, milestone(0, 0)), []api.Mark{in(0, -1)}, 0)
	enables(t, tied(1, milestone(0, 0)), []api.Mark{out(0, 4)})
}

// P5.1: one tie of several is enough to hold an event up, and it must lead to it.
func TestEnabledOfSeveral(t *testing.T) {
	f := tied(4, condition(0, 3, 2), milestone(1, 3), condition(2, 3, 0), condition(0, 3, 4))
	enables(t, f, []api.Mark{in(4, -1), in(-1, -1), in(0, -1), in(-1, -1)}, 0, 1, 2, 3)
	enables(t, f, []api.Mark{in(3, -1), in(-1, -1), in(0, -1), in(-1, -1)}, 0, 1, 2)
	enables(t, f, []api.Mark{in(4, -1), in(-1, 5), in(0, -1), in(-1, -1)}, 0, 1, 2)
	enables(t, f, []api.Mark{in(4, -1), in(-1, -1), in(-1, -1), in(-1, -1)}, 0, 1, 2)
	enables(t, f, []api.Mark{out(-1, -1), out(-1, 5), out(-1, -1), in(-1, -1)}, 3)
	enables(t, tied(2, condition(0, 1, 0), condition(1, 0, 0)), fresh(2))
	// Neither responses, nor includes, nor excludes hold anything up; nor does what leads away.
	enables(t, tied(2, response(0, 1, 0), include(0, 1), exclude(0, 1), exclude(1, 1)), []api.Mark{in(-1, 0), in(-1, 0)}, 0, 1)
	enables(t, tied(2, condition(0, 1, 0), milestone(0, 1)), []api.Mark{in(-1, 0), in(-1, 0)}, 0)
}

// P5.1: what leads to, or from, no event holds nothing up, and nor does a tie of a Kind that there isn't.
func TestEnabledOfOddTies(t *testing.T) {
	for _, no := range noPlaces(2) {
		for at := range 2 {
			enables(t, tied(2, condition(no, at, 0), milestone(no, at), condition(at, no, 9), milestone(at, no), condition(no, no, 0)), []api.Mark{in(-1, 0), in(-1, 0)}, 0, 1)
		}
	}
	for _, kind := range []int{0, -1, 6, 7, math.MinInt, math.MaxInt} {
		enables(t, tied(2, flat.Tie{Kind: kind, From: 0, To: 1, Time: 3}, flat.Tie{Kind: kind, From: 1, To: 1}), []api.Mark{in(-1, 0), in(-1, 0)}, 0, 1)
	}
}

// P5.1: nothing is enabled by a marking that doesn't fit.
func TestEnabledOfMisfits(t *testing.T) {
	for what, m := range misfits() {
		for at := range 3 {
			if mark.Enabled(tied(3), m, at) {
				t.Errorf("%s: %d", what, at)
			}
		}
		for _, at := range noPlaces(3) {
			if mark.Enabled(tied(3), m, at) {
				t.Errorf("%s: %d", what, at)
			}
		}
		if l := mark.All(tied(3), m); len(l) != 0 {
			t.Errorf("%s: %v", what, l)
		}
	}
	// With ties that lead to where the marking has no mark, and where the events end.
	f := tied(3, condition(2, 0, 0), milestone(3, 1), exclude(0, 3))
	for _, many := range []int{0, 2, 4} {
		if l := mark.All(f, fresh(many)); len(l) != 0 || mark.Enabled(f, fresh(many), 0) {
			t.Errorf("%d: %v", many, l)
		}
	}
}

// P5.1: the document's example, and a graph's groups.
func TestEnabledOfGraph(t *testing.T) {
	f := read(t, "event a role r; event b role r; condition a b 2;")
	m := mark.Start(f)
	enables(t, f, m, 0)
	m = did(t, f, m, 0)
	enables(t, f, m, 0)
	m = ticked(t, f, m)
	enables(t, f, m, 0)
	enables(t, f, ticked(t, f, m), 0, 1)

	f = read(t, "group g; event a in g role r; event b in g role r excluded; event c role r pending; condition g c; milestone c g;")
	m = mark.Start(f)
	enables(t, f, m)
	m[2].Due = -1
	enables(t, f, m, 0)
	enables(t, f, did(t, f, m, 0), 0, 2)
}

// P5.3: markings are the same, if all their marks are, in order.
func TestSame(t *testing.T) {
	for _, c := range []struct {
		a, b []api.Mark
		same bool
	}{
		{nil, nil, true}, {nil, []api.Mark{}, true}, {[]api.Mark{}, nil, true},
		{nil, fresh(1), false}, {fresh(1), nil, false}, {fresh(1), fresh(1), true},
		{fresh(2), fresh(3), false}, {fresh(3), fresh(2), false}, {fresh(3), fresh(3), true},
		{[]api.Mark{in(0, 0), out(0, 0)}, []api.Mark{in(0, 0), out(0, 0)}, true},
		{[]api.Mark{in(0, 0), out(0, 0)}, []api.Mark{out(0, 0), in(0, 0)}, false},
		{[]api.Mark{in(0, 0), in(0, 0)}, []api.Mark{in(0, 0), out(0, 0)}, false},
		{[]api.Mark{in(0, 0), in(0, 0)}, []api.Mark{in(0, 0), in(1, 0)}, false},
		{[]api.Mark{in(0, 0), in(0, 0)}, []api.Mark{in(0, 1), in(0, 0)}, false},
		{[]api.Mark{{}}, nil, false}, {[]api.Mark{{}, {}}, []api.Mark{{}}, false},
		// Marks that fit no graph are held against each other as they are.
		{[]api.Mark{in(-1, -1)}, []api.Mark{in(-2, -1)}, false}, {[]api.Mark{in(-1, -3)}, []api.Mark{in(-1, -2)}, false},
		{[]api.Mark{in(math.MaxInt, math.MinInt)}, []api.Mark{in(math.MaxInt, math.MinInt)}, true},
	} {
		if mark.Same(c.a, c.b) != c.same {
			t.Errorf("%v, %v", c.a, c.b)
		}
	}
}
