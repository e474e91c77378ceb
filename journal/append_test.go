package journal_test

import (
	"strings"
	"testing"

	"replevin/api"
	"replevin/journal"
	"replevin/log"
	"replevin/store"
)

// blocksOf tells in how many blocks so many bytes at a place lie.
func blocksOf(place, many int) int { return (place+many-1)/size - place/size + 1 }

// P14.2: records one behind the other, of each length that one may have: they are there, and so much less is left.
func TestAppend(t *testing.T) {
	for n := 1; n <= 400; n++ {
		s := made(t, 40)
		j := opens(t, s)
		var l []string
		writes := 0
		for i := range 3 {
			at := len(framed(t, l...))
			writes += blocksOf(at, n+8)
			l = append(l, record(n, i))
			appends(t, j, record(n, i), api.OK)
			stands(t, j, 40*size-at-n-8, l...)
			holds(t, s, writes, framed(t, l...))
			looks(t, s, 0, 40, l...)
		}
		opens(t, s, l...)
		holds(t, s, writes, framed(t, l...))
	}
}

// P14.2: whatever a record's bytes are, they come back.
func TestAppendBytes(t *testing.T) {
	l := []string{
		"\x00", "\x00\x00\x00", "\x01", "\xff", zeros(31), zeros(32), zeros(33), strings.Repeat("\x01", 64), "é", "\xc3", "日本", "\ufffd", " ", "\n",
		framed(t, "a"), framed(t, "a", "b")[:15], zeros(400), strings.Repeat("\xff", 400), "a", "a",
	}
	s := made(t, 80)
	j := opens(t, s)
	for i, x := range l {
		appends(t, j, x, api.OK)
		stands(t, j, 2560-len(framed(t, l[:i+1]...)), l[:i+1]...)
		looks(t, s, 0, 80, l[:i+1]...)
		if i%3 == 0 {
			j = opens(t, s, l[:i+1]...)
		}
	}
	holds(t, s, s.Writes(), framed(t, l...))
}

// P14.2 and R2: what hasn't 1 to 400 bytes has no frame, and nothing is changed.
func TestAppendNoFrame(t *testing.T) {
	for _, blocks := range []int{1, 14, 256} {
		s := made(t, blocks)
		j := opens(t, s)
		var l []string
		for _, x := range []string{"one", "two"} {
			for _, n := range []int{0, 401, 402, 408, 655, 656, 65535, 65536, 65537, 65936} {
				appends(t, j, zeros(n), api.ErrRange)
				appends(t, j, record(n, 1), api.ErrRange)
			}
			stands(t, j, blocks*size-11*len(l), l...)
			holds(t, s, len(l), framed(t, l...))
			l = append(l, x)
			appends(t, j, x, api.OK)
		}
		stands(t, j, blocks*size-22, l...)
	}
}

// P14.2: a frame that is just as long as the room, and ones that are longer by a byte, or more, which change nothing.
func TestAppendFull(t *testing.T) {
	for _, blocks := range []int{1, 2, 3, 12, 13} {
		for first := 1; first <= blocks*size-17 && first <= 400; first++ {
			s := made(t, blocks)
			j := opens(t, s)
			appends(t, j, record(first, 1), api.OK)
			n, room := s.Writes(), blocks*size-first-8
			stands(t, j, room, record(first, 1))
			if room-7 > 400 {
				continue
			}
			for _, more := range []int{room - 7, room - 6, room, room + 100, 400} {
				if more <= 400 && more > room-8 {
					appends(t, j, record(more, 2), api.ErrFull)
				}
			}
			stands(t, j, room, record(first, 1))
			holds(t, s, n, framed(t, record(first, 1)))
			appends(t, j, record(room-8, 2), api.OK)
			stands(t, j, 0, record(first, 1), record(room-8, 2))
			holds(t, s, n+blocksOf(first+8, room), framed(t, record(first, 1), record(room-8, 2)))
			appends(t, j, "x", api.ErrFull)
			opens(t, s, record(first, 1), record(room-8, 2))
		}
	}
}

// P14.2: less room than any frame has: it stays, and all that has a frame is too long.
func TestAppendLittleRoom(t *testing.T) {
	for room := range 9 {
		s := made(t, 2)
		j := opens(t, s)
		l := []string{record(64-8-room, 1)}
		appends(t, j, l[0], api.OK)
		n := s.Writes()
		for _, x := range []string{"x", "\x00", record(8, 1), record(400, 1)} {
			appends(t, j, x, api.ErrFull)
		}
		appends(t, j, "", api.ErrRange)
		stands(t, j, room, l...)
		holds(t, s, n, framed(t, l...))
		stands(t, opens(t, s, l...), room, l...)
	}
}

// down tells a store of 4 blocks, and its journal of "one", of which an Append was cut off at its second block; and how many writes there were.
func down(t *testing.T) (*store.Store, *journal.Journal, int) {
	t.Helper()
	s := made(t, 4)
	j := opens(t, s)
	appends(t, j, "one", api.OK)
	s.Fuse(1, 4)
	appends(t, j, record(60, 1), api.ErrDown)
	holds(t, s, 2, framed(t, "one", record(60, 1))[:36])
	return s, j, 2
}

// P14.2: behind an Append that was cut off all are refused, also when the store is up again, or was opened by another journal.
func TestAppendDown(t *testing.T) {
	s, j, n := down(t)
	refused := func(s *store.Store, bytes string) {
		t.Helper()
		for _, x := range []string{"a", record(20, 3), record(60, 1), record(109, 1)} {
			appends(t, j, x, api.ErrDown)
		}
		stands(t, j, 128-11, "one")
		holds(t, s, n, bytes)
	}
	torn := framed(t, "one", record(60, 1))[:36]
	refused(s, torn)
	s.Up()
	refused(s, torn)
	s.Fuse(0, 9)
	refused(s, torn)
	if s.Down() {
		t.Error("a write was told")
	}
	s.Up()
	k := opens(t, s, "one")
	n += 2
	refused(s, framed(t, "one"))
	appends(t, k, "two", api.OK)
	n++
	refused(s, framed(t, "one", "two"))
	stands(t, k, 128-22, "one", "two")
	opens(t, s, "one", "two")
}

// P14.2 and R2: of several errors the one that is named first: no frame, no room, down.
func TestAppendErrors(t *testing.T) {
	for _, up := range []bool{false, true} {
		s, j, n := down(t)
		if up {
			s.Up()
		}
		for _, c := range []struct {
			many int
			want api.Errno
		}{{0, api.ErrRange}, {401, api.ErrRange}, {500, api.ErrRange}, {110, api.ErrFull}, {400, api.ErrFull}, {109, api.ErrDown}, {1, api.ErrDown}} {
			appends(t, j, record(c.many, 2), c.want)
		}
		stands(t, j, 117, "one")
		holds(t, s, n, framed(t, "one", record(60, 1))[:36])
	}
}

// P14.2: a store that is down ahead of an Append's first write, of which that one is then the error.
func TestAppendDownAhead(t *testing.T) {
	s := made(t, 3)
	j := opens(t, s)
	appends(t, j, "one", api.OK)
	cutPower(t, s)
	appends(t, j, "two", api.ErrDown)
	s.Up()
	appends(t, j, "two", api.ErrDown)
	stands(t, j, 96-11, "one")
	holds(t, s, 1, framed(t, "one"))
	appends(t, opens(t, s, "one"), "two", api.OK)
}

// P14.2: what is refused without a write isn't a write that had an error: it goes on when the store is up again.
func TestRefusedIsntDown(t *testing.T) {
	for _, c := range []struct {
		many int
		want api.Errno
	}{{0, api.ErrRange}, {401, api.ErrRange}, {78, api.ErrFull}, {400, api.ErrFull}} {
		for _, goes := range []bool{false, true} {
			s := made(t, 3)
			j := opens(t, s)
			appends(t, j, "one", api.OK)
			if goes {
				cutPower(t, s)
			}
			appends(t, j, record(c.many, 1), c.want)
			stands(t, j, 85, "one")
			holds(t, s, 1, framed(t, "one"))
			s.Up()
			appends(t, j, "two", api.OK)
			stands(t, j, 74, "one", "two")
			holds(t, s, 2, framed(t, "one", "two"))
		}
	}
}

// P14.2: a store that went down, and is up again, between two Appends is nothing to the second one.
func TestDownBetween(t *testing.T) {
	s := made(t, 3)
	j := opens(t, s)
	appends(t, j, "one", api.OK)
	for range 3 {
		cutPower(t, s)
		s.Up()
	}
	appends(t, j, "two", api.OK)
	opens(t, s, "one", "two")
}

// P14.2: at each byte at which an Append is cut off: its error, that the journal is as it was, and that the blocks were written rising.
func TestAppendTorn(t *testing.T) {
	for _, ahead := range [][]string{nil, {"a"}, {record(24, 1)}, {record(23, 1)}, {record(56, 1), "b"}} {
		for _, many := range []int{1, 2, 15, 16, 23, 24, 25, 56, 57, 90, 200} {
			was := framed(t, ahead...)
			all := framed(t, append(ahead, record(many, 9))...)
			for at := len(was) / size * size; at < len(all)/size*size+size; at++ {
				s := made(t, 12)
				j := opens(t, s)
				for _, x := range ahead {
					appends(t, j, x, api.OK)
				}
				n := s.Writes()
				whole := at/size - len(was)/size
				if whole >= blocksOf(len(was), many+8) {
					continue
				}
				s.Fuse(whole, at%size+1)
				appends(t, j, record(many, 9), api.ErrDown)
				stands(t, j, 384-len(was), ahead...)
				holds(t, s, n+whole, all[:max(min(at+1, len(all)), len(was))])
				want := ahead
				if at+1 >= len(all) {
					want = append(ahead[:len(ahead):len(ahead)], record(many, 9))
				}
				looks(t, s, 0, 12, want...)
				appends(t, j, "x", api.ErrDown)
				s.Up()
				appends(t, j, "x", api.ErrDown)
				appends(t, opens(t, s, want...), "x", api.OK)
				looks(t, s, 0, 12, append(want[:len(want):len(want)], "x")...)
			}
		}
	}
}

// P14.2: to write bytes: what stands ahead of them in their blocks stays as it stands there, what stands behind is 0; no other block is written.
func TestAppendWrites(t *testing.T) {
	for _, first := range []int{1, 10, 23, 24, 25, 40, 56} {
		for _, many := range []int{1, 10, 23, 24, 40, 80} {
			s := made(t, 8)
			j := opens(t, s)
			appends(t, j, record(first, 1), api.OK)
			// Other bytes than the journal left there, ahead and behind.
			lay(t, s, 0, strings.Repeat("q", 8*size))
			n, at := s.Writes(), first+8
			appends(t, j, record(many, 2), api.OK)
			want := strings.Repeat("q", at) + framed(t, record(many, 2))
			want += zeros((size - len(want)%size) % size)
			holds(t, s, n+blocksOf(at, many+8), want+strings.Repeat("q", 8*size-len(want)))
			stands(t, j, 256-at-many-8, record(first, 1), record(many, 2))
		}
	}
}

// P14.2: a part of which the room ends ahead of the store's end.
func TestAppendInPart(t *testing.T) {
	s := made(t, 9)
	lay(t, s, 0, strings.Repeat("q", 9*size))
	n := s.Writes()
	j := parts(t, s, 3, 2)
	holds(t, s, n+2, strings.Repeat("q", 3*size)+zeros(2*size)+strings.Repeat("q", 4*size))
	appends(t, j, record(57, 1), api.ErrFull)
	appends(t, j, record(40, 1), api.OK)
	appends(t, j, record(9, 1), api.ErrFull)
	appends(t, j, record(8, 1), api.OK)
	stands(t, j, 0, record(40, 1), record(8, 1))
	appends(t, j, "x", api.ErrFull)
	holds(t, s, n+5, strings.Repeat("q", 3*size)+framed(t, record(40, 1), record(8, 1))+strings.Repeat("q", 4*size))
}

// P14.2: a frame is log's, and a record's bounds are log's.
func TestAppendMost(t *testing.T) {
	s := made(t, 256)
	j := opens(t, s)
	room := 8192
	var l []string
	for room >= log.Most+log.Extra {
		l = append(l, record(log.Most, len(l)))
		appends(t, j, l[len(l)-1], api.OK)
		room -= log.Most + log.Extra
		stands(t, j, room, l...)
	}
	appends(t, j, record(log.Most, 0), api.ErrFull)
	appends(t, j, record(room-8, 0), api.OK)
	stands(t, j, 0, append(l, record(room-8, 0))...)
	opens(t, s, append(l, record(room-8, 0))...)
}
