package journal_test

import (
	"slices"
	"strings"
	"testing"

	"replevin/api"
	"replevin/journal"
	"replevin/store"
)

// run is a part of a store, and what its journal has been told: these records, and, where the power went, the one that was under way.
type run struct {
	from, blocks int
	done         []string
	under        string
}

// appendsAll appends records till one is cut off.
func (r *run) appendsAll(t *testing.T, j *journal.Journal, l []string) {
	t.Helper()
	for _, x := range l {
		if e := j.Append(x); e != api.OK {
			r.under = x
			appends(t, j, "x", api.ErrDown)
			break
		}
		r.done = append(r.done, x)
	}
	stands(t, j, r.blocks*size-len(framed(t, r.done...)), r.done...)
}

// left tells what a part's records are, and fails unless all or nothing is there of the one under way.
func (r run) left(t *testing.T, s *store.Store) []string {
	t.Helper()
	l := journal.Look(s, r.from, r.blocks)
	if slices.Equal(l, r.done) {
		return l
	}
	if r.under == "" || !slices.Equal(l, append(slices.Clone(r.done), r.under)) {
		t.Fatalf("%q, not %q, and %q or nothing", l, r.done, r.under)
	}
	return l
}

// opensTorn opens a part while the power goes at that write, after that prefix; tells whether it went, and fails unless the records stay.
func (r run) opensTorn(t *testing.T, s *store.Store, whole, prefix int, l []string) bool {
	t.Helper()
	s.Fuse(whole, prefix)
	j, got, e := journal.Part(s, r.from, r.blocks)
	down := s.Down()
	if down && (j != nil || len(got) != 0 || e != api.ErrDown) || !down && (j == nil || !slices.Equal(got, l) || e != api.OK) {
		t.Fatalf("%d, %d: %v, %q, %d", whole, prefix, j, got, e)
	}
	looks(t, s, r.from, r.blocks, l...)
	s.Up()
	looks(t, s, r.from, r.blocks, l...)
	return down
}

// opensEver opens a part, cut off at each write after each prefix, and then again at some, and at last not cut off: all records are there, one more can be appended, and the store is clear behind it; what isn't of the part stays.
func (r run) opensEver(t *testing.T, s *store.Store, l []string) {
	t.Helper()
	was, start, end := s.Bytes(), r.from*size, (r.from+r.blocks)*size
	want := was[:start] + framed(t, append(slices.Clone(l), "more")...)
	want += zeros(end-len(want)) + was[end:]
	for whole, down := 0, true; down; whole++ {
		for prefix := range 33 {
			c := s.Copy()
			down = r.opensTorn(t, c, whole, prefix, l)
			if prefix%8 < 2 {
				r.opensTorn(t, c, whole/2, (prefix*5+3)%33, l)
			}
			j := parts(t, c, r.from, r.blocks, l...)
			appends(t, j, "more", api.OK)
			if c.Bytes() != want {
				t.Fatalf("%d, %d: %q, not %q", whole, prefix, c.Bytes(), want)
			}
			parts(t, c, r.from, r.blocks, append(slices.Clone(l), "more")...)
		}
	}
}

// powers appends records to a part of stores alike, on which the power goes at each write, after each prefix, and opens what is left.
func powers(t *testing.T, s *store.Store, from, blocks int, l []string) {
	t.Helper()
	all := 0
	for whole, down := 0, true; down; whole++ {
		for prefix := range 33 {
			c, r := s.Copy(), run{from: from, blocks: blocks}
			j := parts(t, c, from, blocks)
			c.Fuse(whole, prefix)
			r.appendsAll(t, j, l)
			down = c.Down()
			if down != (r.under != "") {
				t.Fatalf("%d, %d: %q", whole, prefix, r.under)
			}
			was := r.left(t, c)
			if len(was) > len(r.done) {
				all++
			}
			c.Up()
			r.opensEver(t, c, was)
			if !down {
				break
			}
		}
	}
	// That some were all there though the power went.
	if all < len(l) {
		t.Errorf("%d", all)
	}
}

// P14.4: records of each kind: in one block, in several, just up to a block's end, of bytes 0 and 1, and one that has frames in it.
func TestPower(t *testing.T) {
	for _, l := range [][]string{
		{"one", strings.Repeat("x", 60), "\x00", "four", strings.Repeat("z", 33)},
		{record(24, 1), record(24, 2), record(56, 3), "a", record(15, 4)},
		{zeros(50), zeros(1), zeros(40)},
		{strings.Repeat("\x01", 60), "\x01", strings.Repeat("\x01", 23)},
		{framed(t, "a", "b"), framed(t, record(24, 0), record(40, 0)), "\x00" + framed(t, "c")},
		{record(200, 1)},
	} {
		powers(t, made(t, 10), 0, 10, l)
	}
}

// P14.4: on a part, ahead of and behind which other bytes stand, and frames that would be its own if they stood in it.
func TestPowerPart(t *testing.T) {
	around := framed(t, record(24, 7), record(24, 8))
	s := made(t, 9)
	lay(t, s, 0, around)
	lay(t, s, 6*size, around)
	powers(t, s, 2, 4, []string{"one", record(40, 1), "\x00", record(24, 3)})
	looks(t, s, 0, 2, record(24, 7), record(24, 8))
}

// P14.4: a store in which whole frames, and pieces of frames, stand behind the records: where the opening is cut off none of them becomes a record.
func TestPowerOpen(t *testing.T) {
	long := framed(t, record(90, 1))
	for _, ahead := range [][]string{nil, {"one"}, {record(24, 1)}, {record(23, 1)}, {record(16, 1)}} {
		l := framed(t, ahead...)
		edge := zeros((size - len(l)%size) % size)
		for _, behind := range []string{
			"\x00" + framed(t, "b", "c", record(50, 2)),
			"\x01" + framed(t, "b", "c", record(50, 2)),
			long[:97], long[:60] + zeros(7) + framed(t, "z"), long[:33], long[:7], long[1:],
			edge + "\x00" + framed(t, "b") + strings.Repeat("\x01", 70),
			edge + zeros(size) + framed(t, record(24, 9), record(24, 10)),
			strings.Repeat("\x01", 100), strings.Repeat("q", 100), zeros(99) + "q",
		} {
			s := holding(t, 6, l+behind)
			r := run{from: 0, blocks: 6, done: ahead}
			r.opensEver(t, s, r.left(t, s))
		}
	}
}

// P14.4: the power goes again and again, at other writes each time: what was told is there, whatever was under way.
func TestPowerAgain(t *testing.T) {
	for first := range 33 {
		s := made(t, 40)
		r := run{from: 0, blocks: 40}
		whole, prefix := 0, first
		for turn := range 25 {
			j := opens(t, s, r.done...)
			s.Fuse(whole, prefix)
			r.appendsAll(t, j, []string{record(5+turn, turn), record(turn*7%40+1, 2), record(9, turn)})
			r.done, r.under = r.left(t, s), ""
			s.Up()
			r.opensTorn(t, s, turn%2, prefix/2, r.done)
			whole, prefix = (whole+1)%4, (prefix+5)%33
		}
		if len(r.done) < 15 {
			t.Errorf("%d: %d", first, len(r.done))
		}
	}
}
