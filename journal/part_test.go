package journal_test

import (
	"math"
	"strings"
	"testing"

	"replevin/api"
	"replevin/store"
)

// noParts are parts that a store of six blocks hasn't.
func noParts() [][2]int {
	return [][2]int{
		{-1, 1}, {-1, 2}, {-1, 6}, {-1, 7}, {-6, 6}, {-6, 12}, {0, 0}, {3, 0}, {6, 0}, {2, -1}, {6, -1}, {7, -1}, {-1, 0}, {-1, -1},
		{6, 1}, {7, 1}, {0, 7}, {1, 6}, {5, 2}, {3, 4}, {300, 1}, {1, 300},
		{math.MaxInt, 1}, {math.MaxInt, math.MaxInt}, {1, math.MaxInt}, {0, math.MaxInt}, {math.MaxInt, -math.MaxInt},
		{math.MinInt, 1}, {math.MinInt, math.MinInt}, {0, math.MinInt}, {6, math.MinInt}, {math.MinInt, math.MaxInt}, {math.MaxInt, math.MinInt},
	}
}

// P14.1: of a part that there is not, there is no journal, and are no records; and nothing is written, be the store up or down.
func TestNoPart(t *testing.T) {
	for _, down := range []bool{false, true} {
		s := holding(t, 6, framed(t, "one")+strings.Repeat("q", 4*size))
		if down {
			cutPower(t, s)
		}
		n, was := s.Writes(), s.Bytes()
		for _, p := range noParts() {
			refuses(t, s, p[0], p[1], api.ErrArg)
			looks(t, s, p[0], p[1])
		}
		holds(t, s, n, was)
	}
}

// P14.1: each part of a store that there is: its own bytes alone are its records, and its room.
func TestEachPart(t *testing.T) {
	const blocks = 6
	for from := range blocks {
		for many := 1; many <= blocks-from; many++ {
			s := made(t, blocks)
			looks(t, s, from, many)
			parts(t, s, from, many)
			holds(t, s, 0, "")
			bytes := framed(t, "one", "\x00")
			lay(t, s, from*size, bytes)
			n := s.Writes()
			looks(t, s, from, many, "one", "\x00")
			j := parts(t, s, from, many, "one", "\x00")
			holds(t, s, n, zeros(from*size)+bytes)
			appends(t, j, "two", api.OK)
			holds(t, s, n+1, zeros(from*size)+framed(t, "one", "\x00", "two"))
			looks(t, s, from, many, "one", "\x00", "two")
		}
	}
}

// P14.1: a part is cleared behind its records, and nothing of the blocks ahead of it, or behind it, is written.
func TestPartClears(t *testing.T) {
	const blocks = 6
	for from := range blocks {
		for many := 1; many <= blocks-from; many++ {
			for _, l := range [][]string{nil, {"one"}, {record(24, 1)}} {
				own := framed(t, l...)
				s := holding(t, blocks, strings.Repeat("q", blocks*size))
				lay(t, s, from*size, own)
				n, was := s.Writes(), s.Bytes()
				end := (from + many) * size
				looks(t, s, from, many, l...)
				parts(t, s, from, many, l...)
				touched := many - len(own)/size
				holds(t, s, n+touched, was[:from*size]+own+zeros(many*size-len(own))+was[end:])
			}
		}
	}
}

// P14.1: a part's clearing is rising; where the power goes, its first blocks are clear, and all others are as they were.
func TestPartClearsRising(t *testing.T) {
	was := strings.Repeat("q", 6*size)
	for whole := range 3 {
		for prefix := range 33 {
			s := holding(t, 6, was)
			n := s.Writes()
			s.Fuse(whole, prefix)
			refuses(t, s, 2, 3, api.ErrDown)
			at := whole*size + prefix
			holds(t, s, n+whole, was[:2*size]+zeros(at)+was[2*size+at:])
			looks(t, s, 2, 3)
		}
	}
}

// P14.1: a frame that reaches behind a part's end isn't one of its records, nor is one that began ahead of it.
func TestPartCutsFrame(t *testing.T) {
	bytes := framed(t, "one", record(30, 4), record(20, 5))
	s := holding(t, 4, bytes)
	looks(t, s, 0, 1, "one")
	looks(t, s, 0, 2, "one", record(30, 4))
	looks(t, s, 0, 3, "one", record(30, 4), record(20, 5))
	looks(t, s, 1, 1)
	looks(t, s, 1, 3)
	n := s.Writes()
	parts(t, s, 0, 1, "one")
	holds(t, s, n+1, framed(t, "one")+zeros(size-11)+bytes[size:])
	parts(t, s, 0, 2, "one")
	holds(t, s, n+2, framed(t, "one")+zeros(2*size-11)+bytes[2*size:])
}

// P14.1 and P14.2: a part that is full of frames, which the next part's go on: together they are one part's records.
func TestPartsMeet(t *testing.T) {
	s := made(t, 4)
	a, b := parts(t, s, 0, 2), parts(t, s, 2, 2)
	appends(t, b, "behind", api.OK)
	looks(t, s, 0, 4)
	appends(t, a, record(56, 1), api.OK)
	stands(t, a, 0, record(56, 1))
	appends(t, a, "x", api.ErrFull)
	looks(t, s, 0, 2, record(56, 1))
	looks(t, s, 2, 2, "behind")
	looks(t, s, 0, 4, record(56, 1), "behind")
	opens(t, s, record(56, 1), "behind")
}

// both fails unless two parts of a store, of 3 blocks ahead of 1 that isn't theirs, and of 2 behind it, are as they are told.
func both(t *testing.T, s *store.Store, a, b []string) {
	t.Helper()
	looks(t, s, 0, 3, a...)
	looks(t, s, 4, 2, b...)
	first, second := framed(t, a...), framed(t, b...)
	holds(t, s, s.Writes(), first+zeros(3*size-len(first))+strings.Repeat("m", size)+second)
}

// P14.4: journals on parts that have no block in common stand apart, also where one of them is opened again or is full.
func TestPartsApart(t *testing.T) {
	s := made(t, 6)
	lay(t, s, 3*size, strings.Repeat("m", size))
	a, b := parts(t, s, 0, 3), parts(t, s, 4, 2)
	var la, lb []string
	for i := range 5 {
		la = append(la, record(4+i, i))
		appends(t, a, record(4+i, i), api.OK)
		both(t, s, la, lb)
		lb = append(lb, record(2, 50+i))
		appends(t, b, record(2, 50+i), api.OK)
		both(t, s, la, lb)
	}
	stands(t, a, 96-len(framed(t, la...)), la...)
	stands(t, b, 64-len(framed(t, lb...)), lb...)
	appends(t, b, record(7, 0), api.ErrFull)
	b = parts(t, s, 4, 2, lb...)
	both(t, s, la, lb)
	la = append(la, "more")
	appends(t, a, "more", api.OK)
	a = parts(t, s, 0, 3, la...)
	lb = append(lb, record(6, 9))
	appends(t, b, record(6, 9), api.OK)
	both(t, s, la, lb)
	stands(t, a, 96-len(framed(t, la...)), la...)
	stands(t, b, 0, lb...)
}

// P14.2 and P14.4: an Append that is cut off says nothing of another part's journal; a store that is up again before that one writes is nothing to it.
func TestPartsApartDown(t *testing.T) {
	for place := range 64 {
		s := made(t, 4)
		a, b := parts(t, s, 0, 2), parts(t, s, 2, 2)
		appends(t, a, "a", api.OK)
		appends(t, b, "b", api.OK)
		s.Fuse(place/32, place%32+1)
		appends(t, a, record(20, 1), api.ErrDown)
		stands(t, b, 64-9, "b")
		s.Up()
		appends(t, b, "c", api.OK)
		appends(t, a, "x", api.ErrDown)
		stands(t, a, 64-9, "a")
		stands(t, b, 64-18, "b", "c")
		looks(t, s, 2, 2, "b", "c")
		l := []string{"a"}
		if place >= 9+28-1 {
			l = append(l, record(20, 1))
		}
		a = parts(t, s, 0, 2, l...)
		appends(t, a, "d", api.OK)
		looks(t, s, 0, 2, append(l, "d")...)
		looks(t, s, 2, 2, "b", "c")
	}
}
