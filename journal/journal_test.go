package journal_test

import (
	"slices"
	"strings"
	"testing"

	"replevin/api"
	"replevin/journal"
	"replevin/log"
	"replevin/store"
)

// size is how many bytes a block has.
const size = 32

// zeros are so many bytes 0.
func zeros(many int) string { return strings.Repeat("\x00", many) }

// record tells so many bytes, all of them other ones than those of a neighbouring number.
func record(many, n int) string {
	b := make([]byte, many)
	for i := range b {
		b[i] = byte(n + 7*i)
	}
	return string(b)
}

// framed tells the frames of records.
func framed(t *testing.T, l ...string) string {
	t.Helper()
	s, e := log.Join(l)
	if e != api.OK {
		t.Fatalf("%q: %d", l, e)
	}
	return s
}

// made tells a new store.
func made(t *testing.T, blocks int) *store.Store {
	t.Helper()
	s, e := store.New(blocks)
	if e != api.OK {
		t.Fatalf("%d: %d", blocks, e)
	}
	return s
}

// holding tells a store that begins with these bytes, and is 0 behind them.
func holding(t *testing.T, blocks int, bytes string) *store.Store {
	t.Helper()
	s := made(t, blocks)
	lay(t, s, 0, bytes)
	return s
}

// lay writes these bytes at a place, by hand; all others stay.
func lay(t *testing.T, s *store.Store, place int, bytes string) {
	t.Helper()
	all := s.Bytes()
	all = all[:place] + bytes + all[place+len(bytes):]
	for i := range s.Blocks() {
		if b := all[i*size : i*size+size]; b != s.Bytes()[i*size:i*size+size] {
			if e := s.Write(i, b); e != api.OK {
				t.Fatalf("%d: %d", i, e)
			}
		}
	}
}

// cutPower lets a store go down, of which nothing else changes.
func cutPower(t *testing.T, s *store.Store) {
	t.Helper()
	s.Fuse(0, 0)
	if e := s.Write(0, zeros(size)); e != api.ErrDown || !s.Down() {
		t.Fatal(e)
	}
}

// opens fails unless an Open answers these records.
func opens(t *testing.T, s *store.Store, want ...string) *journal.Journal {
	t.Helper()
	return parts(t, s, 0, s.Blocks(), want...)
}

// parts fails unless a Part answers these records, as Open does, if it is all of the store.
func parts(t *testing.T, s *store.Store, from, blocks int, want ...string) *journal.Journal {
	t.Helper()
	var j *journal.Journal
	var l []string
	var e api.Errno
	if blocks == s.Blocks() {
		c := s.Copy()
		_, k, f := journal.Part(c, from, blocks)
		j, l, e = journal.Open(s)
		if !slices.Equal(k, l) || f != e || c.Bytes() != s.Bytes() || c.Writes() != s.Writes() {
			t.Errorf("a part of all: %q, %d, not %q, %d", k, f, l, e)
		}
	} else {
		j, l, e = journal.Part(s, from, blocks)
	}
	if j == nil || e != api.OK || !slices.Equal(l, want) {
		t.Fatalf("%d, %d: %q, %d, not %q", from, blocks, l, e, want)
	}
	stands(t, j, blocks*size-len(framed(t, want...)), want...)
	return j
}

// refuses fails unless a Part answers that error, and nothing beside it.
func refuses(t *testing.T, s *store.Store, from, blocks int, want api.Errno) {
	t.Helper()
	if j, l, e := journal.Part(s, from, blocks); j != nil || len(l) != 0 || e != want {
		t.Errorf("%d, %d: %v, %q, %d, not %d", from, blocks, j, l, e, want)
	}
}

// refusesAll fails unless an Open answers that error, and nothing beside it.
func refusesAll(t *testing.T, s *store.Store, want api.Errno) {
	t.Helper()
	if j, l, e := journal.Open(s); j != nil || len(l) != 0 || e != want {
		t.Errorf("%v, %q, %d, not %d", j, l, e, want)
	}
}

// looks fails unless a Look answers these records, and Records, if it is all of the store; and the store stays.
func looks(t *testing.T, s *store.Store, from, blocks int, want ...string) {
	t.Helper()
	bytes, writes, down := s.Bytes(), s.Writes(), s.Down()
	if l := journal.Look(s, from, blocks); !slices.Equal(l, want) {
		t.Errorf("%d, %d: %q, not %q", from, blocks, l, want)
	}
	if from == 0 && blocks == s.Blocks() {
		if l := journal.Records(s); !slices.Equal(l, want) {
			t.Errorf("%q, not %q", l, want)
		}
	}
	if s.Bytes() != bytes || s.Writes() != writes || s.Down() != down {
		t.Errorf("%d, %d: something is written", from, blocks)
	}
}

// stands fails unless a journal has these records, and so much room.
func stands(t *testing.T, j *journal.Journal, room int, want ...string) {
	t.Helper()
	for range 2 {
		if l, n := j.Records(), j.Room(); !slices.Equal(l, want) || n != room {
			t.Errorf("%q, room %d, not %q, %d", l, n, want, room)
		}
	}
}

// appends fails unless an Append answers so.
func appends(t *testing.T, j *journal.Journal, record string, want api.Errno) {
	t.Helper()
	if e := j.Append(record); e != want {
		t.Errorf("%d bytes: %d, not %d", len(record), e, want)
	}
}

// holds fails unless a store begins with these bytes, is 0 behind them, and had so many writes.
func holds(t *testing.T, s *store.Store, writes int, bytes string) {
	t.Helper()
	want := bytes + zeros(s.Blocks()*size-len(bytes))
	if got := s.Bytes(); got != want || s.Writes() != writes {
		t.Errorf("%d writes, %q, not %d, %q", s.Writes(), got, writes, want)
	}
}

// P14.1 and P14.2: the chapter's example.
func TestExample(t *testing.T) {
	s := made(t, 2)
	j := opens(t, s)
	appends(t, j, "a", api.OK)
	appends(t, j, "b", api.OK)
	opens(t, s, "a", "b")
}

// P14.1 and P14.3: of no store there is no journal, and are no records.
func TestNoStore(t *testing.T) {
	refusesAll(t, nil, api.ErrArg)
	for _, p := range [][2]int{{0, 1}, {0, 0}, {-1, 1}, {0, -1}, {3, 300}} {
		refuses(t, nil, p[0], p[1], api.ErrArg)
		if l := journal.Look(nil, p[0], p[1]); len(l) != 0 {
			t.Errorf("%v: %q", p, l)
		}
	}
	if l := journal.Records(nil); len(l) != 0 {
		t.Errorf("%q", l)
	}
}

// P14.1 to P14.3: of a new store there are no records, all of it is room, and nothing is written.
func TestNewStore(t *testing.T) {
	for _, blocks := range []int{1, 2, 3, 17, 255, 256} {
		s := made(t, blocks)
		looks(t, s, 0, blocks)
		j := opens(t, s)
		stands(t, j, blocks*size)
		holds(t, s, 0, "")
	}
}

// P14.1 and P14.3: a store whose bytes are records, whatever their bytes, is opened as it is.
func TestStoreOfRecords(t *testing.T) {
	for _, l := range [][]string{
		{"a"}, {"a", "a"}, {"\x00"}, {"\x00", "\x01", "\xff"}, {record(24, 1)}, {record(24, 1), record(24, 2)}, {record(56, 1), "b"},
		{zeros(400)}, {record(400, 3), zeros(23), "last"}, {strings.Repeat("\x01", 25), "b"}, {framed(t, "in", "it"), "x"},
	} {
		bytes := framed(t, l...)
		least := (len(bytes) + size - 1) / size
		for _, blocks := range []int{least, least + 1, 40, 256} {
			s := holding(t, blocks, bytes)
			n := s.Writes()
			looks(t, s, 0, blocks, l...)
			opens(t, s, l...)
			holds(t, s, n, bytes)
		}
	}
}

// P14.1: what stands behind the records is cleared: in the block in which they end, and in later ones; blocks that are clear already aren't written.
func TestOpenClears(t *testing.T) {
	one := framed(t, "a", "bc")
	const blocks = 5
	for _, dirt := range []string{"x", "\x01", "\xff", "garbage", framed(t, "z")[:8], "\x00" + framed(t, "z"), strings.Repeat("q", 32)} {
		for _, ahead := range []string{"", one, framed(t, record(23, 1)), framed(t, record(24, 1)), framed(t, record(24, 1), record(24, 2)), framed(t, record(60, 1))} {
			for place := len(ahead); place+len(dirt) <= blocks*size; place++ {
				s := holding(t, blocks, ahead)
				lay(t, s, place, dirt)
				n := s.Writes()
				l, _ := log.Scan(ahead)
				looks(t, s, 0, blocks, l...)
				opens(t, s, l...)
				holds(t, s, n+dirty(ahead+zeros(place-len(ahead))+dirt, len(ahead)), ahead)
			}
		}
	}
}

// dirty tells in how many blocks something behind a place isn't 0.
func dirty(bytes string, place int) int {
	seen := map[int]bool{}
	for i := place; i < len(bytes); i++ {
		if bytes[i] != 0 {
			seen[i/size] = true
		}
	}
	return len(seen)
}

// P14.1: of many blocks that aren't clear, and of some between that are, these alone are written.
func TestOpenClearsSome(t *testing.T) {
	for mask := range 1 << 6 {
		s := holding(t, 6, framed(t, "one"))
		many := 0
		for i := range 6 {
			if mask>>i&1 == 1 {
				lay(t, s, i*size+31, "\x80")
				many++
			}
		}
		n := s.Writes()
		opens(t, s, "one")
		holds(t, s, n+many, framed(t, "one"))
		opens(t, s, "one")
		holds(t, s, n+many, framed(t, "one"))
	}
}

// P14.1: a frame that isn't whole, or has another sum, isn't a record, nor is what comes behind it.
func TestOpenEndsAtFault(t *testing.T) {
	l := []string{"one", record(40, 2), "three"}
	bytes := framed(t, l...)
	second, third := len(framed(t, l[0])), len(framed(t, l[:2]...))
	for at := range bytes {
		b := []byte(bytes)
		b[at] ^= 0x10
		want := l[:0]
		if at >= second {
			want = l[:1]
		}
		if at >= third {
			want = l[:2]
		}
		s := holding(t, 4, string(b))
		n, ahead := s.Writes(), framed(t, want...)
		looks(t, s, 0, 4, want...)
		opens(t, s, want...)
		holds(t, s, n+dirty(string(b), len(ahead)), ahead)
	}
}

// P14.1: clearing is rising: where the power goes, the blocks ahead are clear, and those behind are as they were.
func TestOpenClearsRising(t *testing.T) {
	bytes := framed(t, "one") + strings.Repeat("q", 4*size-11)
	cleared := framed(t, "one") + zeros(4*size-11)
	for whole := range 4 {
		for prefix := range 33 {
			s := holding(t, 4, bytes)
			n := s.Writes()
			s.Fuse(whole, prefix)
			refusesAll(t, s, api.ErrDown)
			at := whole*size + prefix
			holds(t, s, n+whole, cleared[:at]+bytes[at:])
		}
	}
	s := holding(t, 4, bytes)
	s.Fuse(4, 0)
	opens(t, s, "one")
}

// P14.1 and P14.3: of a store that is down the records are told; it is opened, unless something must be cleared.
func TestStoreDown(t *testing.T) {
	bytes := framed(t, "one", "two")
	for _, s := range []*store.Store{made(t, 3), holding(t, 3, bytes)} {
		l, _ := log.Scan(s.Bytes())
		cutPower(t, s)
		n, was := s.Writes(), s.Bytes()
		looks(t, s, 0, 3, l...)
		opens(t, s, l...)
		holds(t, s, n, was)
	}
	for _, place := range []int{len(bytes), len(bytes) + 1, 31, 32, 64, 95} {
		s := holding(t, 3, bytes)
		lay(t, s, place, "x")
		cutPower(t, s)
		n, was := s.Writes(), s.Bytes()
		looks(t, s, 0, 3, "one", "two")
		refusesAll(t, s, api.ErrDown)
		refuses(t, s, 0, 3, api.ErrDown)
		holds(t, s, n, was)
		s.Up()
		opens(t, s, "one", "two")
		holds(t, s, n+1, bytes)
	}
}
