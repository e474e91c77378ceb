package flat_test

import (
	"math"
	"math/rand"
	"reflect"
	"slices"
	"strconv"
	"testing"
	"time"

	"replevin/api"
	"replevin/flat"
	"replevin/graph"
)

// sample tells a Flat with ties of each kind, anew each time.
func sample() flat.Flat {
	return flat.Flat{
		Events: []api.Event{
			{Name: "a", Role: "r", In: true, Due: -1},
			{Name: "b", Group: "g", Role: "q", Done: true, Due: 3},
			{Name: "c", Group: "h", Role: "r", In: true, Due: api.Never},
		},
		Ties: []flat.Tie{
			condition(0, 1, 5), condition(2, 1, 0), response(1, 0, 7), exclude(1, 1), condition(1, 0, 2),
			include(0, 1), exclude(1, 2), exclude(2, 1), response(1, 2, api.Never), milestone(2, 2), condition(0, 2, 1),
		},
	}
}

// odd tells a Flat that no graph has: ties of no kind, between what are no events, and the same again.
func odd() flat.Flat {
	return flat.Flat{
		Events: []api.Event{{Name: "b"}, {Name: "", Due: -9, Group: "none"}, {Name: "b", Role: "R"}},
		Ties: []flat.Tie{
			include(0, 3), {Kind: 9, From: 1, To: 2, Time: -4}, include(-1, 1), include(0, 3), condition(2, 0, -7), {Kind: 0, From: 2, To: 1},
			include(0, 1), {Kind: -3, From: 0, To: 0, Time: math.MinInt}, include(3, 1), {Kind: 6, From: -1, To: 3}, condition(2, 0, 8),
			exclude(math.MaxInt, math.MinInt), exclude(math.MinInt, 1), {Kind: 9, From: 1, To: 2, Time: 4}, exclude(1, math.MaxInt),
		},
	}
}

// unchanged fails unless a Flat is as another one.
func unchanged(t *testing.T, f, was flat.Flat) {
	t.Helper()
	if !slices.Equal(f.Events, was.Events) || !slices.Equal(f.Ties, was.Ties) {
		t.Errorf("changed: %v", f)
	}
}

// P4.1: the ties that lead to an event, in order.
func TestInto(t *testing.T) {
	for _, c := range []struct {
		kind, to int
		want     []flat.Tie
	}{
		{api.Condition, 0, []flat.Tie{condition(1, 0, 2)}},
		{api.Condition, 1, []flat.Tie{condition(0, 1, 5), condition(2, 1, 0)}},
		{api.Condition, 2, []flat.Tie{condition(0, 2, 1)}},
		{api.Response, 0, []flat.Tie{response(1, 0, 7)}},
		{api.Response, 1, nil},
		{api.Response, 2, []flat.Tie{response(1, 2, api.Never)}},
		{api.Include, 1, []flat.Tie{include(0, 1)}},
		{api.Exclude, 1, []flat.Tie{exclude(1, 1), exclude(2, 1)}},
		{api.Milestone, 2, []flat.Tie{milestone(2, 2)}},
		{api.Milestone, 0, nil},
		{0, 1, nil}, {6, 1, nil}, {-1, 1, nil}, {api.Condition, 3, nil}, {api.Condition, -1, nil},
	} {
		if l := flat.Into(sample(), c.kind, c.to); !slices.Equal(l, c.want) {
			t.Errorf("%d, %d: %v, not %v", c.kind, c.to, l, c.want)
		}
	}
}

// P4.1: the ties that come from an event, in order.
func TestOut(t *testing.T) {
	for _, c := range []struct {
		kind, from int
		want       []flat.Tie
	}{
		{api.Condition, 0, []flat.Tie{condition(0, 1, 5), condition(0, 2, 1)}},
		{api.Condition, 1, []flat.Tie{condition(1, 0, 2)}},
		{api.Condition, 2, []flat.Tie{condition(2, 1, 0)}},
		{api.Response, 0, nil},
		{api.Response, 1, []flat.Tie{response(1, 0, 7), response(1, 2, api.Never)}},
		{api.Include, 0, []flat.Tie{include(0, 1)}},
		{api.Include, 1, nil},
		{api.Exclude, 1, []flat.Tie{exclude(1, 1), exclude(1, 2)}},
		{api.Exclude, 2, []flat.Tie{exclude(2, 1)}},
		{api.Milestone, 2, []flat.Tie{milestone(2, 2)}},
		{0, 1, nil}, {6, 1, nil}, {-1, 1, nil}, {api.Condition, 3, nil}, {api.Condition, -1, nil},
	} {
		if l := flat.Out(sample(), c.kind, c.from); !slices.Equal(l, c.want) {
			t.Errorf("%d, %d: %v, not %v", c.kind, c.from, l, c.want)
		}
	}
}

// P4.1: whether there is such an event, and such a kind, or not.
func TestIntoAndOutOfNone(t *testing.T) {
	for _, c := range []struct {
		kind, at  int
		into, out []flat.Tie
	}{
		{api.Include, 3, []flat.Tie{include(0, 3), include(0, 3)}, []flat.Tie{include(3, 1)}},
		{api.Include, -1, nil, []flat.Tie{include(-1, 1)}},
		{api.Include, 1, []flat.Tie{include(-1, 1), include(0, 1), include(3, 1)}, nil},
		{api.Include, 0, nil, []flat.Tie{include(0, 3), include(0, 3), include(0, 1)}},
		{api.Condition, 0, []flat.Tie{condition(2, 0, -7), condition(2, 0, 8)}, nil},
		{api.Exclude, math.MaxInt, []flat.Tie{exclude(1, math.MaxInt)}, []flat.Tie{exclude(math.MaxInt, math.MinInt)}},
		{api.Exclude, math.MinInt, []flat.Tie{exclude(math.MaxInt, math.MinInt)}, []flat.Tie{exclude(math.MinInt, 1)}},
		{9, 2, []flat.Tie{{Kind: 9, From: 1, To: 2, Time: -4}, {Kind: 9, From: 1, To: 2, Time: 4}}, nil},
		{9, 1, nil, []flat.Tie{{Kind: 9, From: 1, To: 2, Time: -4}, {Kind: 9, From: 1, To: 2, Time: 4}}},
		{0, 1, []flat.Tie{{From: 2, To: 1}}, nil},
		{-3, 0, []flat.Tie{{Kind: -3, Time: math.MinInt}}, []flat.Tie{{Kind: -3, Time: math.MinInt}}},
		{6, 3, []flat.Tie{{Kind: 6, From: -1, To: 3}}, nil},
		{6, -1, nil, []flat.Tie{{Kind: 6, From: -1, To: 3}}},
		{8, 1, nil, nil},
	} {
		if l := flat.Into(odd(), c.kind, c.at); !slices.Equal(l, c.into) {
			t.Errorf("into %d, %d: %v, not %v", c.kind, c.at, l, c.into)
		}
		if l := flat.Out(odd(), c.kind, c.at); !slices.Equal(l, c.out) {
			t.Errorf("out %d, %d: %v, not %v", c.kind, c.at, l, c.out)
		}
		if len(flat.Into(flat.Flat{}, c.kind, c.at)) != 0 || len(flat.Out(flat.Flat{}, c.kind, c.at)) != 0 {
			t.Errorf("of nothing, %d, %d", c.kind, c.at)
		}
	}
	// Ties are told of a Flat without events, too.
	alone := flat.Flat{Ties: []flat.Tie{milestone(0, 0)}}
	if len(flat.Into(alone, api.Milestone, 0)) != 1 || len(flat.Out(alone, api.Milestone, 0)) != 1 {
		t.Error("without events")
	}
}

// P4.2: the graph of events and ties.
func TestBack(t *testing.T) {
	want := api.Graph{
		Events: []api.Event{
			{Name: "a", Role: "r", In: true, Due: -1},
			{Name: "b", Role: "q", Done: true, Due: 3},
			{Name: "c", Role: "r", In: true, Due: api.Never},
		},
		Relations: []api.Relation{
			{Kind: 1, From: "a", To: "b", Time: 5}, {Kind: 1, From: "c", To: "b"}, {Kind: 2, From: "b", To: "a", Time: 7},
			{Kind: 4, From: "b", To: "b"}, {Kind: 1, From: "b", To: "a", Time: 2}, {Kind: 3, From: "a", To: "b"},
			{Kind: 4, From: "b", To: "c"}, {Kind: 4, From: "c", To: "b"}, {Kind: 2, From: "b", To: "c", Time: api.Never},
			{Kind: 5, From: "c", To: "c"}, {Kind: 1, From: "a", To: "c", Time: 1},
		},
	}
	if g := flat.Back(sample()); !graph.Same(g, want) {
		t.Errorf("%v", g)
	}
	for _, f := range []flat.Flat{{}, {Events: []api.Event{}, Ties: []flat.Tie{}}, {Ties: []flat.Tie{condition(0, 0, 1)}}} {
		if g := flat.Back(f); !graph.Same(g, api.Graph{}) {
			t.Errorf("%v: %v", f, g)
		}
	}
}

// P4.2: what leads to, or from, no event is left out, and nothing else, whatever the events and ties are.
func TestBackOfOdd(t *testing.T) {
	want := api.Graph{
		Events: []api.Event{{Name: "b"}, {Name: "", Due: -9}, {Name: "b", Role: "R"}},
		Relations: []api.Relation{
			{Kind: 9, From: "", To: "b", Time: -4}, {Kind: 1, From: "b", To: "b", Time: -7}, {Kind: 0, From: "b", To: ""}, {Kind: 3, From: "b", To: ""},
			{Kind: -3, From: "b", To: "b", Time: math.MinInt}, {Kind: 1, From: "b", To: "b", Time: 8}, {Kind: 9, From: "", To: "b", Time: 4},
		},
	}
	if g := flat.Back(odd()); !graph.Same(g, want) {
		t.Errorf("%v", g)
	}
	for _, at := range []int{-1, 3, 4, math.MinInt, math.MaxInt} {
		f := flat.Flat{Events: sample().Events, Ties: []flat.Tie{include(at, 0), include(0, at), include(at, at), include(0, 2)}}
		if g := flat.Back(f); len(g.Relations) != 1 || g.Relations[0] != (api.Relation{Kind: api.Include, From: "a", To: "c"}) {
			t.Errorf("%d: %v", at, g.Relations)
		}
	}
}

// P4.2: names, in order, whatever they are.
func TestNames(t *testing.T) {
	for _, c := range []struct {
		f    flat.Flat
		want []string
	}{
		{flat.Flat{}, nil},
		{flat.Flat{Ties: sample().Ties}, nil},
		{sample(), []string{"a", "b", "c"}},
		{odd(), []string{"b", "", "b"}},
	} {
		if l := flat.Names(c.f); !slices.Equal(l, c.want) {
			t.Errorf("%v: %q", c.f, l)
		}
	}
}

// flatAgain fails unless a Flat, told as a graph, is the same when it is made flat again, but for its events' groups.
func flatAgain(t *testing.T, f flat.Flat) {
	t.Helper()
	b := flat.Back(f)
	if len(b.Groups) != 0 || len(b.Users) != 0 {
		t.Fatalf("%v", b)
	}
	again := made(t, b)
	if !slices.Equal(again.Ties, f.Ties) || !slices.Equal(flat.Names(again), flat.Names(f)) {
		t.Fatalf("%v, not %v", again, f)
	}
	for i, v := range f.Events {
		v.Group = ""
		if again.Events[i] != v {
			t.Fatalf("%v, not %v", again.Events[i], v)
		}
	}
	if !graph.Same(flat.Back(again), b) {
		t.Fatalf("%v", flat.Back(again))
	}
}

// P4.3: a flat graph, made flat again, is the same.
func TestFlatAgain(t *testing.T) {
	flatAgain(t, flat.Flat{})
	flatAgain(t, sample())
	r := rand.New(rand.NewSource(12))
	for range 3000 {
		f := made(t, chance(r))
		if len(f.Ties) <= 300 {
			flatAgain(t, f)
		}
	}
}

// P4.3: a flat graph of more ties than there may be relations comes back as its events and its ties; of a graph it is one too great.
func TestFlatAgainOfMany(t *testing.T) {
	f := made(t, read(t, eighty()+"condition e0 g 2; response h e0 3; exclude e0 g; exclude e1 g;"))
	if len(f.Ties) != 280 {
		t.Fatalf("%d", len(f.Ties))
	}
	flatAgain(t, f)
	f = made(t, read(t, eighty()+"condition g g 2;"))
	b := flat.Back(f)
	if len(b.Events) != 80 || len(b.Relations) != 6400 || b.Relations[6399] != (api.Relation{Kind: api.Condition, From: "e79", To: "e79", Time: 2}) {
		t.Errorf("%d, %d", len(b.Events), len(b.Relations))
	}
	refuses(t, "6400 relations", b, api.ErrMany)
}

// toldOfEach tells a graph in which each relation is told of each event, and then no groups; of what would be told twice, the one that holds.
func toldOfEach(g api.Graph) api.Graph {
	c := api.Graph{Events: slices.Clone(g.Events), Users: g.Users}
	for i := range c.Events {
		c.Events[i].Group = ""
	}
	for _, tie := range slowTies(g) {
		c.Relations = append(c.Relations, api.Relation{Kind: tie.Kind, From: g.Events[tie.From].Name, To: g.Events[tie.To].Name, Time: tie.Time})
	}
	return c
}

// P4.3: groups are as if each relation were told of each event.
func TestGroupsAsIfToldOfEach(t *testing.T) {
	r := rand.New(rand.NewSource(13))
	compared := 0
	for range 3000 {
		g := chance(r)
		c := toldOfEach(g)
		if len(c.Relations) > 300 {
			continue
		}
		compared++
		f, each := made(t, g), made(t, c)
		if !slices.Equal(f.Ties, each.Ties) {
			t.Fatalf("%v:\n%v, not\n%v", g, f.Ties, each.Ties)
		}
		for kind := range 7 {
			for at := range 7 {
				if !slices.Equal(flat.Into(f, kind, at-1), flat.Into(each, kind, at-1)) || !slices.Equal(flat.Out(f, kind, at-1), flat.Out(each, kind, at-1)) {
					t.Fatalf("%v: %d, %d", g, kind, at-1)
				}
			}
		}
		if !graph.Same(flat.Back(f), flat.Back(each)) {
			t.Fatalf("%v: %v", g, flat.Back(f))
		}
	}
	if compared < 2000 {
		t.Errorf("%d", compared)
	}
}

// scribble writes over a list, and over the room behind it.
func scribble[T any](l []T, other T) {
	l = l[:cap(l)]
	for i := range l {
		l[i] = other
	}
}

// R3 and R5: what Make answers is the caller's own.
func TestMakeSharesNothing(t *testing.T) {
	g := read(t, five+"condition a g 3; response h a 4;")
	g.Events, g.Relations = slices.Grow(g.Events, 9), slices.Grow(g.Relations, 9)
	was := graph.Clone(g)
	f, again := made(t, g), made(t, g)
	want := slices.Clone(again.Ties)
	scribble(f.Events, api.Event{Name: "x"})
	scribble(f.Ties, milestone(9, 9))
	if !reflect.DeepEqual(g, was) || g.Events[:6][5] != (api.Event{}) || g.Relations[:3][2] != (api.Relation{}) {
		t.Errorf("%v is changed", g)
	}
	scribble(g.Events, api.Event{Name: "y"})
	scribble(g.Relations, api.Relation{From: "y"})
	unchanged(t, again, flat.Flat{Events: was.Events, Ties: want})
}

// R3 and R5: what the others answer is the caller's own, too.
func TestSharesNothing(t *testing.T) {
	f := sample()
	f.Events, f.Ties = slices.Grow(f.Events, 9), slices.Grow(f.Ties, 9)
	into, out, back, names := flat.Into(f, 1, 1), flat.Out(f, 1, 0), flat.Back(f), flat.Names(f)
	for range 2 {
		scribble(flat.Into(f, 1, 1), milestone(9, 9))
		scribble(flat.Out(f, 1, 0), milestone(9, 9))
		b := flat.Back(f)
		scribble(b.Events, api.Event{Name: "x"})
		scribble(b.Relations, api.Relation{From: "x"})
		scribble(flat.Names(f), "x")
		unchanged(t, f, sample())
	}
	if f.Events[:4][3] != (api.Event{}) || f.Ties[:12][11] != (flat.Tie{}) {
		t.Errorf("%v, %v", f.Events[:4], f.Ties[:12])
	}
	scribble(f.Events, api.Event{Name: "y"})
	scribble(f.Ties, milestone(8, 8))
	if !slices.Equal(into, flat.Into(sample(), 1, 1)) || !slices.Equal(out, flat.Out(sample(), 1, 0)) {
		t.Errorf("%v, %v", into, out)
	}
	if !graph.Same(back, flat.Back(sample())) || !slices.Equal(names, []string{"a", "b", "c"}) {
		t.Errorf("%v, %v", back, names)
	}
}

// soon fails unless a call ends in a time in which it could be made many times over.
func soon(t *testing.T, what string, call func()) {
	t.Helper()
	ended := make(chan struct{})
	go func() {
		call()
		close(ended)
	}()
	select {
	case <-ended:
	case <-time.After(30 * time.Second):
		t.Fatalf("%s: not soon", what)
	}
}

// R1: what is very large is told as what is small.
func TestLarge(t *testing.T) {
	const many = 1 << 20
	var f flat.Flat
	for i := range many {
		f.Events = append(f.Events, api.Event{Name: "e" + strconv.Itoa(i), Group: "g"})
		f.Ties = append(f.Ties, flat.Tie{Kind: 1 + i%2, From: i / 2, To: many - 1, Time: i})
	}
	var names []string
	var into, out []flat.Tie
	var b api.Graph
	soon(t, "Names", func() { names = flat.Names(f) })
	soon(t, "Into", func() { into = flat.Into(f, api.Condition, many-1) })
	soon(t, "Out", func() { out = flat.Out(f, api.Response, many/2-1) })
	soon(t, "Back", func() { b = flat.Back(f) })
	if len(names) != many || names[many-1] != "e1048575" {
		t.Errorf("%d", len(names))
	}
	if len(into) != many/2 || into[many/2-1] != condition(many/2-1, many-1, many-2) {
		t.Errorf("%d", len(into))
	}
	if !slices.Equal(out, []flat.Tie{response(many/2-1, many-1, many-1)}) {
		t.Errorf("%v", out)
	}
	if len(b.Events) != many || b.Events[many-1] != (api.Event{Name: "e1048575"}) {
		t.Errorf("%d", len(b.Events))
	}
	if len(b.Relations) != many || b.Relations[many-1] != (api.Relation{Kind: 2, From: "e524287", To: "e1048575", Time: many - 1}) {
		t.Errorf("%d", len(b.Relations))
	}
}
