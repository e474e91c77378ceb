package heap_test

import (
	"math/rand"
	"slices"
	"testing"
	"time"

	"replevin/api"
	"replevin/heap"
)

// slow is a heap that is looked through anew each time.
type slow struct {
	step int
	l    []heap.Item
}

func (s *slow) at(id int) int {
	return slices.IndexFunc(s.l, func(x heap.Item) bool { return x.Id == id })
}

func (s *slow) weight(x heap.Item, now int) int { return x.Base*s.step + (now - x.Since) }

// first tells the place of the first, by the weights at a moment; -1 of none.
func (s *slow) first(now int) int {
	first := -1
	for at, x := range s.l {
		if first < 0 {
			first = at
			continue
		}
		w, v := s.weight(x, now), s.weight(s.l[first], now)
		if w > v || w == v && x.Id < s.l[first].Id {
			first = at
		}
	}
	return first
}

// list tells all, the first one first, at a moment.
func (s *slow) list(now int) []heap.Item {
	var l []heap.Item
	left := slow{s.step, slices.Clone(s.l)}
	for len(left.l) > 0 {
		at := left.first(now)
		l = append(l, left.l[at])
		left.l = slices.Delete(left.l, at, at+1)
	}
	return l
}

func (s *slow) put(x heap.Item) api.Errno {
	switch {
	case x.Base < 0 || x.Base > 9 || x.Since < 0 || x.Since > year:
		return api.ErrRange
	case s.at(x.Id) >= 0:
		return api.ErrTwice
	case len(s.l) == most:
		return api.ErrMany
	}
	s.l = append(s.l, x)
	return api.OK
}

func (s *slow) take(at int) (heap.Item, bool) {
	if at < 0 {
		return heap.Item{}, false
	}
	x := s.l[at]
	s.l = slices.Delete(s.l, at, at+1)
	return x, true
}

// chance tells an item, some of them such as may not be.
func chance(r *rand.Rand, ids int) heap.Item {
	x := heap.Item{Id: r.Intn(ids) - ids/2, Base: r.Intn(10), Since: r.Intn(40)}
	switch r.Intn(20) {
	case 0:
		x.Base = r.Intn(14) - 2
	case 1:
		x.Since = year + r.Intn(3) - 1
	case 2:
		x.Since = -r.Intn(3)
	}
	return x
}

// turn makes a call of both heaps: such calls as put, or rather those that take.
func turn(t *testing.T, r *rand.Rand, h *heap.Heap, s *slow, ids int, puts bool) {
	t.Helper()
	now := r.Intn(60)
	what := r.Intn(10)
	if puts {
		what = max(r.Intn(14)-4, 0)
	}
	switch {
	case what < 4:
		x := chance(r, ids)
		if e, want := h.Put(x), s.put(x); e != want {
			t.Fatalf("%v: %d, not %d", x, e, want)
		}
	case what < 6:
		x, is := h.Pop()
		if y, was := s.take(s.first(now)); x != y || is != was {
			t.Fatalf("%v, not %v", x, y)
		}
	case what < 8:
		id := r.Intn(ids) - ids/2
		x, is := h.Remove(id)
		if y, was := s.take(s.at(id)); x != y || is != was {
			t.Fatalf("%v, not %v", x, y)
		}
	default:
		x, is := h.Peek()
		if at := s.first(now); is != (at >= 0) || is && x != s.l[at] {
			t.Fatalf("%v: %v", s.l, x)
		}
	}
	id := r.Intn(ids) - ids/2
	w, is := h.Weight(id, now)
	at := s.at(id)
	if h.Has(id) != (at >= 0) || is != (at >= 0) || is && w != s.weight(s.l[at], now) || h.Len() != len(s.l) {
		t.Fatalf("%v: %d, %d", s.l, id, w)
	}
}

// P9.2 and P9.3: whatever is put, taken and removed between, the answers are as the words say; and two heaps stand apart.
func TestManyTurns(t *testing.T) {
	r := rand.New(rand.NewSource(9))
	for range 300 {
		ids := r.Intn(60) + 1
		step, other := r.Intn(12)+1, r.Intn(1<<20)+1
		h, s := made(t, step), &slow{step: step}
		g, q := made(t, other), &slow{step: other}
		for i := range 200 {
			puts := i/50%2 == 0
			turn(t, r, h, s, ids, puts)
			turn(t, r, g, q, ids, !puts)
			if i%9 == 0 {
				holds(t, h, s.list(r.Intn(60))...)
				holds(t, g, q.list(r.Intn(60))...)
			}
		}
		empties(t, h, s.list(3)...)
		holds(t, g, q.list(5)...)
	}
}

// P9.3: all that is put comes once, the first one first.
func TestComesOnce(t *testing.T) {
	r := rand.New(rand.NewSource(93))
	for range 100 {
		many := r.Intn(60)
		h, s := made(t, 5), &slow{step: 5}
		for _, id := range r.Perm(many) {
			x := heap.Item{Id: id, Base: r.Intn(10), Since: r.Intn(50)}
			puts(t, h, x, api.OK)
			s.put(x)
		}
		empties(t, h, s.list(r.Intn(year))...)
	}
}

// P9.3: which one is first is the same at all moments: no weight of a later one is greater, at any.
func TestSameAtAllMoments(t *testing.T) {
	h := full(t)
	l := h.List()
	for _, now := range []int{-1, 0, 1, 50, 96, 97, 5000, year - 1, year, year + 1} {
		was, _ := h.Weight(l[0].Id, now)
		for _, x := range l {
			w, is := h.Weight(x.Id, now)
			if !is || w > was {
				t.Errorf("%d, %v: %d, not above %d", now, x, w, was)
			}
			was = w
		}
	}
}

// P9.3: what waits long comes at last, whatever comes then: a moment on moment of the greatest Base.
func TestComesAtLast(t *testing.T) {
	for _, step := range []int{1, 10, 1000} {
		// At 9 steps its weight is as great as that of what comes then, and its Id greater.
		old := heap.Item{Id: 1 << 50}
		h := made(t, step, old)
		for now := range 9*step + 1 {
			puts(t, h, heap.Item{Id: now, Base: 9, Since: now}, api.OK)
			pops(t, h, heap.Item{Id: now, Base: 9, Since: now})
		}
		puts(t, h, heap.Item{Id: 1, Base: 9, Since: 9*step + 1}, api.OK)
		empties(t, h, old, heap.Item{Id: 1, Base: 9, Since: 9*step + 1})
	}
}

// R3: a list that was told is nobody's but the caller's, with the room behind it.
func TestListSharesNothing(t *testing.T) {
	x, y, z := heap.Item{Id: 1}, heap.Item{Id: 2, Base: 1, Since: 5}, heap.Item{Id: 3, Base: 1, Since: 20}
	h := made(t, 10, x, y, z)
	l, m := h.List(), h.List()
	for _, told := range [][]heap.Item{h.List(), l} {
		scribble(told, heap.Item{Id: 77})
		_ = append(told, heap.Item{Id: 78})
	}
	if !slices.Equal(m, []heap.Item{y, x, z}) {
		t.Errorf("%v", m)
	}
	holds(t, h, y, x, z)
	pops(t, h, y)
	puts(t, h, heap.Item{Id: 4, Base: 9}, api.OK)
	if !slices.Equal(m, []heap.Item{y, x, z}) {
		t.Errorf("%v", m)
	}
}

// scribble writes over a list, and over the room behind it.
func scribble[T any](l []T, other T) {
	l = l[:cap(l)]
	for i := range l {
		l[i] = other
	}
}

// R4 and R5: the same calls in the same order answer the same, whatever is asked of other heaps between.
func TestSameAgain(t *testing.T) {
	var was [][]heap.Item
	for turn := range 5 {
		r := rand.New(rand.NewSource(45))
		h, other := made(t, 7), made(t, 3)
		for i := range 300 {
			h.Put(chance(r, 50))
			if i%3 == 0 {
				h.Pop()
			}
			h.Remove(r.Intn(50) - 25)
			for range turn {
				other.Put(heap.Item{Id: i, Base: i % 10})
				other.Remove(i / 2)
			}
			if turn == 0 {
				was = append(was, h.List())
			} else if !slices.Equal(h.List(), was[i]) {
				t.Fatalf("%v, not %v", h.List(), was[i])
			}
		}
	}
}

// soon fails unless a call ends in a time in which it could be made many times over.
func soon(t *testing.T, what string, call func()) {
	t.Helper()
	ended := make(chan struct{})
	go func() {
		call()
		close(ended)
	}()
	select {
	case <-ended:
	case <-time.After(30 * time.Second):
		t.Fatalf("%s: not soon", what)
	}
}

// R1: very many calls of a full heap.
func TestFullSoon(t *testing.T) {
	h := full(t)
	soon(t, "Put, Peek, Has, Len, Weight and Remove", func() {
		for range 100000 {
			x, _ := h.Peek()
			_, is := h.Weight(x.Id, 50)
			if h.Put(x) != api.ErrTwice || !h.Has(x.Id) || h.Len() != most || !is {
				t.Errorf("%v", x)
				return
			}
			h.Remove(x.Id)
			h.Put(heap.Item{Id: x.Id, Base: x.Base, Since: x.Since + 1})
		}
	})
	soon(t, "List", func() {
		for range 1000 {
			if l := h.List(); len(l) != most {
				t.Errorf("%d", len(l))
				return
			}
		}
	})
	soon(t, "Pop and Put", func() {
		for range 100000 {
			x, _ := h.Pop()
			x.Since += 1000
			h.Put(x)
		}
	})
	if h.Len() != most {
		t.Errorf("%d", h.Len())
	}
}
