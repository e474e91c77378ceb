package ring_test

import (
	"math/rand"
	"slices"
	"testing"
	"time"

	"replevin/api"
	"replevin/ring"
)

// chance tells a net of so many points and ways, some of them to what is no point.
func chance(r *rand.Rand, points, ways int) ring.Net {
	n := make(ring.Net, points)
	for range ways {
		if points > 0 {
			at := r.Intn(points)
			n[at] = append(n[at], r.Intn(points+2)-1)
		}
	}
	return n
}

// slowReach tells which points one leads to: front by front.
func slowReach(n ring.Net, from int) []bool {
	led := make([]bool, len(n))
	for front := []int{from}; len(front) > 0; front = front[1:] {
		for _, to := range n[front[0]] {
			if 0 <= to && to < len(n) && !led[to] {
				led[to] = true
				front = append(front, to)
			}
		}
	}
	return led
}

// places tells where a list holds true.
func places(l []bool) []int {
	var at []int
	for i, v := range l {
		if v {
			at = append(at, i)
		}
	}
	return at
}

// slowRings tells, word by word, the rings.
func slowRings(n ring.Net) [][]int {
	var led [][]bool
	for at := range n {
		led = append(led, slowReach(n, at))
	}
	var rings [][]int
	told := make([]bool, len(n))
	for at := range n {
		if told[at] {
			continue
		}
		var l []int
		for to := range n {
			if to == at || led[at][to] && led[to][at] {
				l = append(l, to)
				told[to] = true
			}
		}
		rings = append(rings, l)
	}
	return rings
}

// agrees fails unless what is told of a net is as the words say.
func agrees(t *testing.T, n ring.Net) {
	t.Helper()
	parts(t, n, slowRings(n)...)
	turned := ring.Turn(n)
	if len(turned) != len(n) {
		t.Fatalf("%v: %v", n, turned)
	}
	for at := range n {
		reaches(t, n, at, places(slowReach(n, at))...)
		var from []int
		for i := range n {
			if slices.Contains(n[i], at) {
				from = append(from, i)
			}
		}
		if !slices.Equal(turned[at], from) {
			t.Fatalf("%v, %d: %v, not %v", n, at, turned[at], from)
		}
	}
}

// P6.1, of very many small nets: it is as the words say.
func TestManySmallNets(t *testing.T) {
	r := rand.New(rand.NewSource(6))
	for range 10000 {
		agrees(t, chance(r, r.Intn(9), r.Intn(16)))
	}
}

// P6.1, of nets with very long ways in which side ways turn off: it is as the words say.
func TestDeepNets(t *testing.T) {
	r := rand.New(rand.NewSource(61))
	least := 3000
	for _, ways := range []int{3000, 4500, 6000, 9000} {
		n := chance(r, 3000, ways)
		want := slowRings(n)
		parts(t, n, want...)
		least = min(least, len(want))
		for range 5 {
			from := r.Intn(len(n))
			reaches(t, n, from, places(slowReach(n, from))...)
		}
	}
	if least > 500 {
		t.Errorf("%d", least)
	}
	// A chain, each of its points with a way back by chance, some of them to a ring at its side.
	n := chain(4000)
	for at := range n {
		if r.Intn(9) == 0 {
			n[at] = append([]int{max(at-r.Intn(9), 0)}, n[at]...)
		}
		if r.Intn(9) == 0 {
			n[at] = append(n[at], len(n), max(at-r.Intn(9), 0))
			n = append(n, []int{len(n)})
		}
	}
	parts(t, n, slowRings(n)...)
}

// P6.3: rings part the points; between two rings ways lead one way alone; a net has an order just if each ring is one point that doesn't loop.
func TestWhatFollows(t *testing.T) {
	r := rand.New(rand.NewSource(63))
	orders := 0
	for range 10000 {
		n := chance(r, r.Intn(9), r.Intn(12))
		rings := ring.Rings(n)
		ringOf := make([]int, len(n))
		count := 0
		for i, l := range rings {
			for _, at := range l {
				ringOf[at] = i
				count++
			}
		}
		if all := slices.Sorted(slices.Values(slices.Concat(rings...))); count != len(n) || len(slices.Compact(all)) != len(n) {
			t.Fatalf("%v: %v", n, rings)
		}
		between := make(ring.Net, len(rings))
		single := true
		for at := range n {
			for _, to := range ring.Reach(n, at) {
				if ringOf[to] != ringOf[at] {
					between[ringOf[at]] = append(between[ringOf[at]], ringOf[to])
				}
			}
			single = single && len(rings[ringOf[at]]) == 1 && !ring.Loops(n, at)
		}
		if _, e := ring.Order(between); e != api.OK {
			t.Fatalf("%v: %v, %v", n, rings, between)
		}
		if _, e := ring.Order(n); (e == api.OK) != single {
			t.Fatalf("%v: %v, %d", n, rings, e)
		}
		if single {
			orders++
		}
	}
	if orders < 1000 || orders > 9000 {
		t.Errorf("%d", orders)
	}
}

// P6.1: the other way round the rings are the same, and what leads to a point is what it leads to.
func TestTurned(t *testing.T) {
	r := rand.New(rand.NewSource(64))
	for range 3000 {
		n := chance(r, r.Intn(9), r.Intn(16))
		turned := ring.Turn(n)
		parts(t, turned, ring.Rings(n)...)
		for at := range n {
			for to := range n {
				if slices.Contains(ring.Reach(n, at), to) != slices.Contains(ring.Reach(turned, to), at) {
					t.Fatalf("%v: %v, %d, %d", n, turned, at, to)
				}
			}
		}
		twice := ring.Turn(turned)
		for at := range n {
			var want []int
			for _, to := range slices.Compact(slices.Sorted(slices.Values(n[at]))) {
				if 0 <= to && to < len(n) {
					want = append(want, to)
				}
			}
			if !slices.Equal(twice[at], want) {
				t.Fatalf("%v: %v", n, twice)
			}
		}
	}
}

// roomy tells two nets, one with a ring and one with none, of which each list has room behind it, and all of their lists with that room.
func roomy() (looped, straight ring.Net, room [][]int) {
	one := []int{2, 1, 2, 7, -1, 5, 6}
	two := []int{0, 2, 0, 8, 9}
	three := []int{3, 3, 4, 4}
	looped = make(ring.Net, 5)[:3]
	looped[0], looped[1], looped[2] = one[:5], two[:2], three[:1]
	straight = make(ring.Net, 5)[:3]
	straight[0], straight[1], straight[2] = one[:4], two[1:2], three[:2]
	return looped, straight, [][]int{one, two, three}
}

// cloned tells a net, or lists, anew, with the room behind it.
func cloned(l [][]int) [][]int {
	l = slices.Clone(l[:cap(l)])
	for i := range l {
		l[i] = slices.Clone(l[i])
	}
	return l
}

// scribble writes over lists, and over the room behind them.
func scribble(lists ...[]int) {
	for _, l := range lists {
		for i := range l[:cap(l)] {
			l[:cap(l)][i] = 77
		}
	}
}

// R3: a net stays as it was, with the room behind it, whatever is asked of it, and whatever is written to what is told of it.
func TestArgumentsStay(t *testing.T) {
	looped, straight, room := roomy()
	for _, n := range []ring.Net{looped, straight} {
		was, roomWas := cloned(n), cloned(room)
		for range 2 {
			scribble(ring.Rings(n)...)
			order, _ := ring.Order(n)
			scribble(order)
			ring.Longest(n)
			for at := -1; at < 5; at++ {
				scribble(ring.Reach(n, at))
				ring.Loops(n, at)
			}
			turned := ring.Turn(n)
			scribble(turned...)
			for i := range turned {
				turned[i] = []int{5}
			}
			if !same(n[:cap(n)], was) || !same(room, roomWas) {
				t.Fatalf("%v, %v, not %v, %v", n, room, was, roomWas)
			}
		}
	}
}

// R3: no answer shares anything with the net, or with another answer, or a part of it with another part.
func TestSharesNothing(t *testing.T) {
	looped, straight, room := roomy()
	rings, again := ring.Rings(looped), ring.Rings(looped)
	turned, turnedAgain := ring.Turn(looped), ring.Turn(looped)
	reach, reachAgain := ring.Reach(looped, 0), ring.Reach(looped, 0)
	order, _ := ring.Order(straight)
	orderAgain, _ := ring.Order(straight)
	scribble(rings...)
	scribble(turned...)
	scribble(reach, order)
	scribble(room...)
	looped[0], straight[0] = nil, nil
	if !same(again, [][]int{{0, 1}, {2}}) {
		t.Errorf("%v", again)
	}
	if !same(turnedAgain, [][]int{{1}, {0}, {0, 1}}) || !slices.Equal(reachAgain, []int{0, 1, 2}) || !slices.Equal(orderAgain, []int{0, 1, 2}) {
		t.Errorf("%v, %v, %v", turnedAgain, reachAgain, orderAgain)
	}
	parted := ring.Rings(ring.Net{{1}, {0}, {3}, {2}})
	parted[0] = append(parted[0], 9, 9, 9)
	scribble(parted[0])
	if !slices.Equal(parted[1], []int{2, 3}) {
		t.Errorf("%v", parted)
	}
	back := ring.Turn(ring.Net{{1}, {0}, {1}})
	back[0] = append(back[0], 9, 9, 9)
	scribble(back[0])
	if !slices.Equal(back[1], []int{0, 2}) {
		t.Errorf("%v", back)
	}
}

// R4 and R5: the same call answers the same, whatever was called between.
func TestSameAgain(t *testing.T) {
	r := rand.New(rand.NewSource(45))
	n := chance(r, 60, 90)
	rings, turned, reach := ring.Rings(n), ring.Turn(n), ring.Reach(n, 5)
	for range 20 {
		ring.Rings(chance(r, 40, 90))
		ring.Reach(chance(r, 80, 90), 7)
		if !same(ring.Rings(n), rings) || !same(ring.Turn(n), turned) || !slices.Equal(ring.Reach(n, 5), reach) {
			t.Fatalf("%v", n)
		}
	}
}

// soon fails unless a call ends in a time in which it could be made many times over.
func soon(t *testing.T, what string, call func()) {
	t.Helper()
	ended := make(chan struct{})
	go func() {
		call()
		close(ended)
	}()
	select {
	case <-ended:
	case <-time.After(30 * time.Second):
		t.Fatalf("%s: not soon", what)
	}
}

// R1: a very long chain, the same the other way round, and a very long ring.
func TestLong(t *testing.T) {
	const many = 1 << 22
	n := chain(many)
	var rings [][]int
	var reach []int
	var turned ring.Net
	soon(t, "Rings of a chain", func() { rings = ring.Rings(n) })
	if len(rings) != many || !slices.Equal(rings[many-1], []int{many - 1}) {
		t.Errorf("%d", len(rings))
	}
	soon(t, "Reach of a chain", func() { reach = ring.Reach(n, 1) })
	if len(reach) != many-2 || reach[0] != 2 {
		t.Errorf("%d", len(reach))
	}
	soon(t, "an order of a chain", func() { refuses(t, "a chain", n, api.ErrMany) })
	soon(t, "Turn", func() { turned = ring.Turn(n) })
	soon(t, "Rings of what is turned", func() { rings = ring.Rings(turned) })
	if len(rings) != many || !slices.Equal(rings[0], []int{0}) {
		t.Errorf("%d", len(rings))
	}
	n[many-1] = []int{many - 1, 0}
	soon(t, "Rings of a ring", func() { rings = ring.Rings(n) })
	if len(rings) != 1 || len(rings[0]) != many || rings[0][many-1] != many-1 {
		t.Errorf("%d", len(rings))
	}
	soon(t, "Loops", func() {
		if !ring.Loops(n, many/2) || ring.Loops(turned, 0) {
			t.Error("a ring that doesn't loop, or a chain that does")
		}
	})
	soon(t, "an order of a ring", func() { refuses(t, "a ring", n, api.ErrRing) })
}

// R1: very many ways: of each point to all, and of each point to all greater ones, very many times over.
func TestWide(t *testing.T) {
	const many = 3000
	all := make([]int, many)
	for i := range all {
		all[i] = i
	}
	full, rising := make(ring.Net, many), make(ring.Net, many)
	for i := range many {
		full[i], rising[i] = all, all[i+1:]
	}
	soon(t, "all", func() {
		parts(t, full, all)
		reaches(t, full, many-1, all...)
		refuses(t, "all", full, api.ErrRing)
	})
	soon(t, "Turn", func() {
		if turned := ring.Turn(full); len(turned) != many || !slices.Equal(turned[many-1], all) {
			t.Errorf("%d", len(turned))
		}
	})
	soon(t, "rising", func() {
		if len(ring.Rings(rising)) != many {
			t.Error("rising")
		}
		reaches(t, rising, 0, all[1:]...)
		refuses(t, "rising", rising, api.ErrMany)
	})
	again := make(ring.Net, 200)
	for i := range 199 {
		again[i] = slices.Repeat([]int{i + 1, 199}, 1<<14)
	}
	soon(t, "an order", func() { stands(t, again, 199, all[:200]...) })
}

func BenchmarkRings(b *testing.B) {
	n := chance(rand.New(rand.NewSource(1)), 200, 600)
	for b.Loop() {
		ring.Rings(n)
	}
}
