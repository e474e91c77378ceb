package heap_test

import (
	"math"
	"testing"

	"replevin/api"
	"replevin/heap"
)

// weighs fails unless an item is of such a weight at a moment.
func weighs(t *testing.T, h *heap.Heap, id, now, want int) {
	t.Helper()
	if w, is := h.Weight(id, now); w != want || !is {
		t.Errorf("%d at %d: %d, %v, not %d", id, now, w, is, want)
	}
}

// P9.2: of an empty heap there is nothing; of one item it is the first and the last.
func TestFew(t *testing.T) {
	h := made(t, 10)
	nothing(t, h)
	x := heap.Item{Id: -5, Base: 2, Since: 8}
	for range 3 {
		puts(t, h, x, api.OK)
		holds(t, h, x)
		pops(t, h, x)
		nothing(t, h)
		puts(t, h, x, api.OK)
		removes(t, h, x)
		nothing(t, h)
	}
	puts(t, h, x, api.OK)
	for _, id := range []int{5, 0, -6, math.MaxInt, least} {
		if y, is := h.Remove(id); y != (heap.Item{}) || is || h.Has(id) {
			t.Errorf("%d: %v, %v", id, y, is)
		}
	}
	empties(t, h, x)
}

// P9.2: an item that is told, or taken, may be all zero.
func TestZeroItem(t *testing.T) {
	h := made(t, 10, heap.Item{})
	weighs(t, h, 0, 0, 0)
	holds(t, h, heap.Item{})
	pops(t, h, heap.Item{})
	puts(t, h, heap.Item{}, api.OK)
	removes(t, h, heap.Item{})
	nothing(t, h)
}

// P9.2: the first is that of the greatest weight: what Base and waiting add.
func TestFirst(t *testing.T) {
	for i, c := range []struct {
		step int
		l    []heap.Item // the first one first
	}{
		{10, []heap.Item{{Id: 2, Base: 1}, {Id: 1}}},
		{10, []heap.Item{{Id: 2}, {Id: 1, Since: 1}}},
		{10, []heap.Item{{Id: 2, Base: 1, Since: 9}, {Id: 1}}},
		{10, []heap.Item{{Id: 1}, {Id: 2, Base: 1, Since: 11}}},
		{1, []heap.Item{{Id: 9, Base: 9, Since: 8}, {Id: 1}}},
		{1, []heap.Item{{Id: 1}, {Id: 2, Base: 9, Since: 10}}},
		{1 << 20, []heap.Item{{Id: 2, Base: 9, Since: 9<<20 - 1}, {Id: 1}, {Id: 3, Base: 9, Since: 9<<20 + 1}}},
		{1 << 20, []heap.Item{{Id: 2, Base: 1, Since: year - 1}, {Id: 1, Base: 1, Since: year}, {Id: 3, Since: year - 1}, {Id: 4, Since: year}}},
		{10, []heap.Item{{Id: 3, Base: 3, Since: 3}, {Id: 4, Base: 4, Since: 14}, {Id: 2, Base: 2, Since: 4}, {Id: 1, Base: 1, Since: 5}}},
	} {
		for turn := range len(c.l) {
			h := made(t, c.step)
			for at := range c.l {
				puts(t, h, c.l[(at+turn)%len(c.l)], api.OK)
			}
			holds(t, h, c.l...)
			empties(t, h, c.l...)
			if t.Failed() {
				t.Fatalf("case %d", i)
			}
		}
	}
}

// P9.2: of as great weights the least Id is first, as far apart as numbers go.
func TestAsGreat(t *testing.T) {
	ids := []int{least, least + 1, -1 << 40, -8, -7, -1, 0, 1, 2, 9, 10, 1 << 40, math.MaxInt - 1, math.MaxInt}
	for turn := range ids {
		h, other := made(t, 10), made(t, 10)
		var l, same []heap.Item
		for i, id := range ids {
			l = append(l, heap.Item{Id: id, Base: 4, Since: 40})
			same = append(same, heap.Item{Id: id, Base: i % 10, Since: i % 10 * 10})
		}
		for i := range ids {
			puts(t, h, l[(i*5+turn)%len(l)], api.OK)
			puts(t, other, same[(i*3+turn)%len(l)], api.OK)
		}
		holds(t, h, l...)
		empties(t, h, l...)
		empties(t, other, same...)
	}
	// But the Id counts for nothing as long as weights differ.
	empties(t, made(t, 10, heap.Item{Id: least, Since: 1}, heap.Item{Id: math.MaxInt}), heap.Item{Id: math.MaxInt}, heap.Item{Id: least, Since: 1})
}

// P9.2: whichever of some is taken, the others stay, in their order: what stands in the middle, and what was put last.
func TestRemoveEach(t *testing.T) {
	for many := 1; many <= 16; many++ {
		for skip := range many {
			var l []heap.Item
			for i := range many {
				l = append(l, heap.Item{Id: -i, Base: 9, Since: i * i})
			}
			h := made(t, 3)
			for i := range many {
				// 17 has no divisor below it: each comes once.
				at := (i+1)*7%17 - 1
				if many < 16 {
					at = many - 1 - i
				}
				puts(t, h, l[at], api.OK)
			}
			removes(t, h, l[skip])
			var left []heap.Item
			for i, x := range l {
				if i != skip {
					left = append(left, x)
				}
			}
			holds(t, h, left...)
			empties(t, h, left...)
		}
	}
}

// P9.2: what comes to the place of one that was taken may belong higher up than that, or lower down.
func TestRemoveGoesUp(t *testing.T) {
	var l []heap.Item
	for i, since := range []int{0, 50, 1, 51, 52, 2, 3, 53, 54, 55, 56, 4, 5, 6, 7} {
		l = append(l, heap.Item{Id: i, Since: since})
	}
	for skip := range l {
		h := made(t, 1, l...)
		removes(t, h, l[skip])
		was := -1
		for x, is := h.Pop(); is; x, is = h.Pop() {
			if x.Since < was || x.Id == skip {
				t.Errorf("%d: %v behind %d", skip, x, was)
			}
			was = x.Since
		}
	}
}

// P9.2: an item's weight ahead of its moment, at it and behind it, and at moments that are none.
func TestWeight(t *testing.T) {
	h := made(t, 10, heap.Item{Id: 1}, heap.Item{Id: 2, Base: 9, Since: 50}, heap.Item{Id: -3, Base: 4, Since: year}, heap.Item{Id: least, Base: 1, Since: 7})
	for _, c := range []struct{ id, now, want int }{
		{1, 0, 0}, {1, 1, 1}, {1, 30, 30}, {1, year, year}, {1, year + 1, year}, {1, math.MaxInt, year}, {1, -1, 0}, {1, least, 0},
		{2, 0, 40}, {2, 49, 89}, {2, 50, 90}, {2, 51, 91}, {2, year, year + 40}, {2, year - 1, year + 39}, {2, year + 1, year + 40}, {2, -1, 40}, {2, least, 40},
		{-3, year, 40}, {-3, year - 1, 39}, {-3, 0, 40 - year}, {-3, -5, 40 - year}, {-3, math.MaxInt, 40},
		{least, 7, 10}, {least, 0, 3},
	} {
		weighs(t, h, c.id, c.now, c.want)
	}
	for _, id := range []int{0, 3, -1, math.MaxInt, least + 1} {
		for _, now := range []int{0, 50, -1, year + 1} {
			if w, is := h.Weight(id, now); w != 0 || is {
				t.Errorf("%d at %d: %d, %v", id, now, w, is)
			}
		}
	}
	holds(t, h, heap.Item{Id: 2, Base: 9, Since: 50}, heap.Item{Id: least, Base: 1, Since: 7}, heap.Item{Id: 1}, heap.Item{Id: -3, Base: 4, Since: year})
}

// P9.2: of a full heap, too.
func TestFull(t *testing.T) {
	h := full(t)
	l := h.List()
	for i := 1; i < len(l); i++ {
		w, _ := h.Weight(l[i-1].Id, 99)
		v, _ := h.Weight(l[i].Id, 99)
		if w < v || w == v && l[i-1].Id >= l[i].Id {
			t.Errorf("%v ahead of %v", l[i-1], l[i])
		}
	}
	if len(l) != most {
		t.Errorf("%d", len(l))
	}
	for i, x := range l {
		if i%3 == 0 {
			removes(t, h, x)
		}
	}
	for i, x := range l {
		if i%3 > 0 {
			pops(t, h, x)
		}
	}
	nothing(t, h)
}
