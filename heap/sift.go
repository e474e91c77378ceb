package heap

import "cmp"

func (h *Heap) weight(x Item, now int) int { return x.Base*h.step + now - x.Since }

// compare tells which of two comes first: below 0, x. That is the same at all moments, so the moment 0 does.
func (h *Heap) compare(x, y Item) int {
	return cmp.Or(cmp.Compare(h.weight(y, 0), h.weight(x, 0)), cmp.Compare(x.Id, y.Id))
}

// ahead tells whether what is at one place comes ahead of what is at another.
func (h *Heap) ahead(at, other int) bool { return h.compare(h.items[at], h.items[other]) < 0 }

func (h *Heap) swap(at, other int) {
	x, y := h.items[at], h.items[other]
	h.items[at], h.items[other] = y, x
	h.places[y.Id], h.places[x.Id] = at, other
}

// sift lets what is at a place go up, or else down, to where it belongs.
func (h *Heap) sift(at int) {
up:
	if over := (at - 1) / 2; at > 0 && h.ahead(at, over) {
		h.swap(at, over)
		at = over
		goto up
	}
down:
	first := at
	for under := 2*at + 1; under <= 2*at+2 && under < len(h.items); under++ {
		if h.ahead(under, first) {
			first = under
		}
	}
	if first != at {
		h.swap(at, first)
		at = first
		goto down
	}
}

// take takes away what is at a place: the last comes there, and goes on to where it belongs.
func (h *Heap) take(at int) Item {
	x := h.items[at]
	last := len(h.items) - 1
	h.swap(at, last)
	h.items = h.items[:last]
	delete(h.places, x.Id)
	if at < last {
		h.sift(at)
	}
	return x
}
