package heap_test

import (
	"math"
	"slices"
	"testing"

	"replevin/api"
	"replevin/heap"
)

const (
	year  = 1 << 40 // the last moment
	most  = 1000
	least = math.MinInt
)

// made tells an empty heap, with these put in.
func made(t *testing.T, step int, all ...heap.Item) *heap.Heap {
	t.Helper()
	h, e := heap.New(step)
	if e != api.OK || h == nil {
		t.Fatalf("%d: %d", step, e)
	}
	for _, x := range all {
		puts(t, h, x, api.OK)
	}
	return h
}

// full tells a heap in which nothing more may be put.
func full(t *testing.T) *heap.Heap {
	t.Helper()
	h := made(t, 3)
	for i := range most {
		puts(t, h, heap.Item{Id: i * 7 % most, Base: i % 10, Since: i * 31 % 97}, api.OK)
	}
	return h
}

// puts fails unless a Put answers so.
func puts(t *testing.T, h *heap.Heap, x heap.Item, want api.Errno) {
	t.Helper()
	if e := h.Put(x); e != want {
		t.Errorf("%v: %d, not %d", x, e, want)
	}
}

// isFirst fails unless Peek tells an item, and leaves it there.
func isFirst(t *testing.T, h *heap.Heap, want heap.Item) {
	t.Helper()
	many := h.Len()
	for range 2 {
		if x, is := h.Peek(); x != want || !is {
			t.Errorf("%v, %v, not %v", x, is, want)
		}
	}
	if h.Len() != many || !h.Has(want.Id) {
		t.Errorf("%v: %d, not %d", want, h.Len(), many)
	}
}

// gone fails unless an item was just taken, and is there no more.
func gone(t *testing.T, h *heap.Heap, x heap.Item, is bool, want heap.Item, many int) {
	t.Helper()
	if x != want || !is {
		t.Errorf("%v, %v, not %v", x, is, want)
	}
	if h.Has(want.Id) || h.Len() != many {
		t.Errorf("%v is there, of %d, not %d", want, h.Len(), many)
	}
	if w, is := h.Weight(want.Id, 5); w != 0 || is {
		t.Errorf("%v: %d, %v", want, w, is)
	}
}

// pops fails unless Pop takes an item.
func pops(t *testing.T, h *heap.Heap, want heap.Item) {
	t.Helper()
	many := h.Len()
	x, is := h.Pop()
	gone(t, h, x, is, want, many-1)
}

// removes fails unless Remove takes an item.
func removes(t *testing.T, h *heap.Heap, want heap.Item) {
	t.Helper()
	many := h.Len()
	x, is := h.Remove(want.Id)
	gone(t, h, x, is, want, many-1)
}

// holds fails unless all that is in a heap is this, the first one first.
func holds(t *testing.T, h *heap.Heap, want ...heap.Item) {
	t.Helper()
	if l := h.List(); !slices.Equal(l, want) {
		t.Errorf("%v, not %v", l, want)
	}
	if h.Len() != len(want) {
		t.Errorf("%d, not %d", h.Len(), len(want))
	}
	for _, x := range want {
		if !h.Has(x.Id) {
			t.Errorf("%v isn't there", x)
		}
	}
	if len(want) > 0 {
		isFirst(t, h, want[0])
		return
	}
	if x, is := h.Peek(); x != (heap.Item{}) || is {
		t.Errorf("%v, %v", x, is)
	}
}

// empties fails unless a heap's items go in this order.
func empties(t *testing.T, h *heap.Heap, want ...heap.Item) {
	t.Helper()
	for i, x := range want {
		isFirst(t, h, x)
		pops(t, h, x)
		holds(t, h, want[i+1:]...)
	}
	nothing(t, h)
}

// nothing fails unless a heap is empty.
func nothing(t *testing.T, h *heap.Heap) {
	t.Helper()
	holds(t, h)
	if x, is := h.Pop(); x != (heap.Item{}) || is {
		t.Errorf("%v, %v", x, is)
	}
	for _, id := range []int{0, 1, -1, least, math.MaxInt} {
		if x, is := h.Remove(id); x != (heap.Item{}) || is || h.Has(id) {
			t.Errorf("%d: %v, %v", id, x, is)
		}
		if w, is := h.Weight(id, 5); w != 0 || is {
			t.Errorf("%d: %d, %v", id, w, is)
		}
	}
	holds(t, h)
}

// P9.1 and P9.2: the chapter's example.
func TestExample(t *testing.T) {
	x, y, z := heap.Item{Id: 1}, heap.Item{Id: 2, Base: 1, Since: 5}, heap.Item{Id: 3, Base: 1, Since: 20}
	holds(t, made(t, 10, x, y, z), y, x, z)
	empties(t, made(t, 10, x, y, z), y, x, z)
	empties(t, made(t, 10, z, y, x), y, x, z)
}

// P9.1: steps that may be, and that may not.
func TestNew(t *testing.T) {
	for _, step := range []int{1, 2, 10, 1<<20 - 1, 1 << 20} {
		h := made(t, step)
		nothing(t, h)
		puts(t, h, heap.Item{Id: 4, Base: 9}, api.OK)
		weighs(t, h, 4, 0, 9*step)
	}
	for _, step := range []int{0, -1, -10, 1<<20 + 1, 1 << 21, least, math.MaxInt} {
		if h, e := heap.New(step); h != nil || e != api.ErrArg {
			t.Errorf("%d: %v, %d", step, h, e)
		}
	}
}

// P9.1: the edges of Base and Since.
func TestPutRange(t *testing.T) {
	was := heap.Item{Id: 7, Base: 3, Since: 4}
	for _, c := range []struct {
		base, since int
		want        api.Errno
	}{
		{0, 0, api.OK}, {9, 0, api.OK}, {0, year, api.OK}, {9, year, api.OK}, {5, 5, api.OK},
		{-1, 0, api.ErrRange}, {10, 0, api.ErrRange}, {0, -1, api.ErrRange}, {0, year + 1, api.ErrRange},
		{-1, -1, api.ErrRange}, {10, year + 1, api.ErrRange},
		{least, 0, api.ErrRange}, {math.MaxInt, 0, api.ErrRange}, {0, least, api.ErrRange}, {0, math.MaxInt, api.ErrRange},
	} {
		for _, id := range []int{8, 0, -8, least, math.MaxInt} {
			h := made(t, 10, was)
			x := heap.Item{Id: id, Base: c.base, Since: c.since}
			puts(t, h, x, c.want)
			if c.want != api.OK {
				holds(t, h, was)
				continue
			}
			removes(t, h, was)
			holds(t, h, x)
		}
	}
}

// P9.1: an Id that is there, and one that was there and was taken.
func TestPutTwice(t *testing.T) {
	x, y, z := heap.Item{Id: 1, Base: 1}, heap.Item{Id: 2, Base: 2}, heap.Item{Id: -3, Base: 3}
	h := made(t, 10, x, y, z)
	for _, id := range []int{1, 2, -3} {
		for _, again := range []heap.Item{{Id: id}, {Id: id, Base: 9}, {Id: id, Base: id & 3}} {
			puts(t, h, again, api.ErrTwice)
			holds(t, h, z, y, x)
		}
	}
	pops(t, h, z)
	puts(t, h, z, api.OK)
	puts(t, h, z, api.ErrTwice)
	removes(t, h, x)
	x.Base = 9
	puts(t, h, x, api.OK)
	puts(t, h, x, api.ErrTwice)
	empties(t, h, x, z, y)
	puts(t, h, y, api.OK)
	holds(t, h, y)
}

// P9.1: the 1000th item, and one more; and R2: where several errors apply, the one named first.
func TestPutMany(t *testing.T) {
	h := made(t, 10)
	for i := range most {
		if h.Len() != i {
			t.Fatalf("%d, not %d", h.Len(), i)
		}
		puts(t, h, heap.Item{Id: i, Since: i}, api.OK)
	}
	was := h.List()
	for _, c := range []struct {
		x    heap.Item
		want api.Errno
	}{
		{heap.Item{Id: most}, api.ErrMany},
		{heap.Item{Id: -1, Base: 9, Since: year}, api.ErrMany},
		{heap.Item{Id: 0}, api.ErrTwice},
		{heap.Item{Id: most - 1, Base: 9}, api.ErrTwice},
		{heap.Item{Id: most, Base: 10}, api.ErrRange},
		{heap.Item{Id: most, Since: -1}, api.ErrRange},
		{heap.Item{Id: 0, Base: -1}, api.ErrRange},
		{heap.Item{Id: 0, Since: year + 1}, api.ErrRange},
	} {
		puts(t, h, c.x, c.want)
		if !slices.Equal(h.List(), was) || h.Len() != most || h.Has(most) || h.Has(-1) {
			t.Errorf("%v: %d", c.x, h.Len())
		}
	}
	removes(t, h, heap.Item{Id: 500, Since: 500})
	puts(t, h, heap.Item{Id: most, Base: 9}, api.OK)
	puts(t, h, heap.Item{Id: 500, Since: 500}, api.ErrMany)
	pops(t, h, heap.Item{Id: most, Base: 9})
	puts(t, h, heap.Item{Id: 500, Since: 500}, api.OK)
	puts(t, h, heap.Item{Id: most}, api.ErrMany)
	if !slices.Equal(h.List(), was) {
		t.Errorf("%v", h.List())
	}
	// R2: of a heap that isn't full, too.
	h = made(t, 10, heap.Item{Id: 4})
	puts(t, h, heap.Item{Id: 4, Base: 10}, api.ErrRange)
	puts(t, h, heap.Item{Id: 4, Since: -1}, api.ErrRange)
	holds(t, h, heap.Item{Id: 4})
}
