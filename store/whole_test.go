package store_test

import (
	"fmt"
	"math/rand"
	"slices"
	"strings"
	"testing"
	"time"

	"replevin/api"
	"replevin/store"
)

// slow is a store's bytes in one list, and after how many writes that are told OK the next one is torn (below 0: none).
type slow struct {
	l      []byte
	tears  int
	prefix int
	down   bool
	writes int
}

func newSlow(blocks int) *slow { return &slow{l: make([]byte, blocks*32), tears: -1} }

func (s *slow) read(i int) (string, api.Errno) {
	if s.down {
		return "", api.ErrDown
	}
	if i < 0 || i > len(s.l)/32-1 {
		return "", api.ErrRange
	}
	return string(s.l[32*i : 32*i+32]), api.OK
}

func (s *slow) write(i int, bytes string) api.Errno {
	if _, e := s.read(i); e != api.OK {
		return e
	}
	if len(bytes) != 32 {
		return api.ErrArg
	}
	if s.tears == s.writes {
		s.down = true
		copy(s.l[32*i:], bytes[:s.prefix])
		return api.ErrDown
	}
	copy(s.l[32*i:], bytes)
	s.writes++
	return api.OK
}

func (s *slow) fuse(writes, prefix int) {
	s.tears, s.prefix = -1, 0
	if writes >= 0 {
		s.tears = s.writes + writes
	}
	for n := range max(prefix, 0) {
		s.prefix = (n + 1) % 33
	}
}

func (s *slow) up() { s.down, s.tears = false, -1 }

func (s *slow) copied() *slow {
	other := *s
	other.l = slices.Clone(s.l)
	return &other
}

// pair is a store, and what its answers are held against.
type pair struct {
	s *store.Store
	q *slow
}

// alike fails unless both tell the same of all that may be asked.
func (p pair) alike(t *testing.T) {
	t.Helper()
	blocks := len(p.q.l) / 32
	if p.s.Bytes() != string(p.q.l) || p.s.Down() != p.q.down || p.s.Writes() != p.q.writes || p.s.Blocks() != blocks {
		t.Fatalf("%q, %v, %d, not %q, %v, %d", p.s.Bytes(), p.s.Down(), p.s.Writes(), p.q.l, p.q.down, p.q.writes)
	}
	for i := -1; i <= blocks; i++ {
		want, no := p.q.read(i)
		reads(t, p.s, i, want, no)
	}
}

// turn makes a call of both, and tells what it was, and what it answered.
func (p pair) turn(t *testing.T, r *rand.Rand) string {
	t.Helper()
	switch r.Intn(12) {
	case 0, 1:
		whole, prefix := r.Intn(7)-1, r.Intn(75)-5
		p.s.Fuse(whole, prefix)
		p.q.fuse(whole, prefix)
		return "Fuse"
	case 2:
		p.s.Up()
		p.q.up()
		return "Up"
	}
	i, bytes := r.Intn(len(p.q.l)/32), data(r.Intn(256))
	switch r.Intn(8) {
	case 0:
		i = []int{-1, -2, len(p.q.l) / 32, len(p.q.l)/32 + 1}[r.Intn(4)]
	case 1:
		bytes = (bytes + bytes)[:r.Intn(65)]
	}
	got, want := p.s.Write(i, bytes), p.q.write(i, bytes)
	if got != want {
		t.Fatalf("%d, %q: %d, not %d", i, bytes, got, want)
	}
	return fmt.Sprint("Write ", got)
}

// P12.1 to P12.3, of very many calls: all is as the words say; and copies, and other stores, go on for themselves.
func TestManyTurns(t *testing.T) {
	r := rand.New(rand.NewSource(12))
	count := map[string]int{}
	for range 200 {
		var l []pair
		for range 2 {
			blocks := r.Intn(5) + 1
			l = append(l, pair{made(t, blocks), newSlow(blocks)})
		}
		for range 150 {
			p := l[r.Intn(len(l))]
			count[p.turn(t, r)]++
			if len(l) < 6 && r.Intn(20) == 0 {
				l = append(l, pair{p.s.Copy(), p.q.copied()})
				count[fmt.Sprint("Copy ", p.q.down)]++
			}
			for _, p := range l {
				p.alike(t)
			}
		}
	}
	// That these turns try what they are to try.
	for _, what := range []string{"Write 0", "Write 1", "Write 3", "Write 16", "Fuse", "Up", "Copy true", "Copy false"} {
		if count[what] < 100 {
			t.Errorf("%s: %d", what, count[what])
		}
	}
}

// P12.2: a copy of a store with a fuse, at each write of it: both are torn at the same one, whichever goes on first.
func TestCopyFuse(t *testing.T) {
	for whole := range 5 {
		for between := range whole + 1 {
			s := lit(t, whole, 9)
			for range between {
				writes(t, s, 0, data(4), api.OK)
			}
			first := s.Bytes()[:32]
			stores := []*store.Store{s.Copy(), s, s.Copy()}
			for _, x := range stores {
				stands(t, x, false, 3+between, first, data(2), data(3))
			}
			for _, x := range stores {
				for range whole - between {
					writes(t, x, 1, data(5), api.OK)
				}
				second := x.Bytes()[32:64]
				stands(t, x, false, 3+whole, first, second, data(3))
				writes(t, x, 1, data(6), api.ErrDown)
				stands(t, x, true, 3+whole, first, torn(data(6), second, 9), data(3))
			}
		}
	}
}

// P12.2: a copy of a store that is down is down; that one is up again says nothing of the other.
func TestCopyDown(t *testing.T) {
	for _, first := range []bool{true, false} {
		s := lit(t, 0, 9)
		writes(t, s, 1, data(6), api.ErrDown)
		was := torn(data(6), data(2), 9)
		c := s.Copy()
		stands(t, c, true, 3, data(1), was, data(3))
		if first {
			s, c = c, s
		}
		s.Up()
		stands(t, s, false, 3, data(1), was, data(3))
		stands(t, c, true, 3, data(1), was, data(3))
		writes(t, s, 1, data(7), api.OK)
		writes(t, c, 1, data(8), api.ErrDown)
		stands(t, s, false, 4, data(1), data(7), data(3))
		stands(t, c, true, 3, data(1), was, data(3))
	}
}

// P12.2 and R3: whatever is done to a store or its copy changes nothing of the other, nor of a copy of the copy.
func TestCopyApart(t *testing.T) {
	for which := range 3 {
		s := filled(t, 1, 2, 3)
		c := s.Copy()
		stores := []*store.Store{s, c, c.Copy()}
		x := stores[which]
		writes(t, x, 0, data(9), api.OK)
		x.Fuse(1, 4)
		writes(t, x, 1, data(9), api.OK)
		writes(t, x, 2, data(9), api.ErrDown)
		for i, y := range stores {
			if i == which {
				stands(t, y, true, 5, data(9), data(9), torn(data(9), data(3), 4))
				continue
			}
			stands(t, y, false, 3, data(1), data(2), data(3))
			for range 3 {
				writes(t, y, 2, data(3), api.OK)
			}
			stands(t, y, false, 6, data(1), data(2), data(3))
		}
		x.Up()
		stands(t, x, false, 5, data(9), data(9), torn(data(9), data(3), 4))
	}
}

// P12.2: a fuse that is put in, or taken from, a store isn't its copy's.
func TestCopyFuseApart(t *testing.T) {
	for _, put := range []func(s *store.Store){func(s *store.Store) { s.Fuse(-1, 0) }, func(s *store.Store) { s.Up() }, func(s *store.Store) { s.Fuse(1, 20) }} {
		for _, first := range []bool{true, false} {
			s := lit(t, 0, 9)
			c := s.Copy()
			if first {
				s, c = c, s
			}
			put(s)
			writes(t, s, 1, data(6), api.OK)
			stands(t, s, false, 4, data(1), data(6), data(3))
			writes(t, c, 1, data(7), api.ErrDown)
			stands(t, c, true, 3, data(1), torn(data(7), data(2), 9), data(3))
		}
	}
}

// R5: two stores that were made stand apart, of as many blocks and of others.
func TestStoresApart(t *testing.T) {
	a, b, c := filled(t, 1, 2), filled(t, 3, 4), filled(t, 5, 6, 7)
	a.Fuse(0, 8)
	writes(t, b, 0, data(9), api.OK)
	writes(t, c, 0, data(10), api.OK)
	writes(t, a, 0, data(11), api.ErrDown)
	stands(t, a, true, 2, torn(data(11), data(1), 8), data(2))
	stands(t, b, false, 3, data(9), data(4))
	stands(t, c, false, 4, data(10), data(6), data(7))
	c.Up()
	stands(t, a, true, 2, torn(data(11), data(1), 8), data(2))
	stands(t, made(t, 2), false, 0, zeros, zeros)
}

// R3: what was told stays as it was, whatever is written then.
func TestToldStays(t *testing.T) {
	s := filled(t, 1, 2)
	b, _ := s.Read(0)
	all := s.Bytes()
	// A copy of each byte: the texts themselves might be the store's own memory.
	wasB, wasAll := strings.Clone(b), strings.Clone(all)
	writes(t, s, 0, data(9), api.OK)
	s.Fuse(0, 7)
	writes(t, s, 1, data(8), api.ErrDown)
	s.Up()
	if b != wasB || all != wasAll || b != data(1) || all != data(1)+data(2) {
		t.Errorf("%q, %q", b, all)
	}
}

// R4 and R5: the same calls in the same order answer the same, whatever is asked of other stores between.
func TestSameAgain(t *testing.T) {
	var was []string
	for turn := range 4 {
		r := rand.New(rand.NewSource(124))
		p, other := pair{made(t, 4), newSlow(4)}, pair{made(t, 4), newSlow(4)}
		between := rand.New(rand.NewSource(int64(turn)))
		for i := range 300 {
			told := fmt.Sprintf("%s %q %v %d", p.turn(t, r), p.s.Bytes(), p.s.Down(), p.s.Writes())
			for range turn {
				other.turn(t, between)
			}
			if turn == 0 {
				was = append(was, told)
			} else if was[i] != told {
				t.Fatalf("%s, not %s", told, was[i])
			}
		}
	}
}

// soon fails unless a call ends in a time in which it could be made many times over.
func soon(t *testing.T, what string, call func()) {
	t.Helper()
	ended := make(chan struct{})
	go func() {
		call()
		close(ended)
	}()
	select {
	case <-ended:
	case <-time.After(30 * time.Second):
		t.Fatalf("%s: not soon", what)
	}
}

// R1: very many calls of a store of 256 blocks.
func TestFullSoon(t *testing.T) {
	s := made(t, most)
	soon(t, "Write, Read, Fuse, Up, Down, Writes and Blocks", func() {
		for i := range 300000 {
			s.Up()
			s.Fuse(1<<62, 1<<62)
			e := s.Write(i%most, data(i))
			b, no := s.Read(i % most)
			if e != api.OK || no != api.OK || b != data(i) || s.Down() || s.Writes() != i+1 || s.Blocks() != most {
				t.Errorf("%d: %d, %q, %d", i, e, b, no)
				return
			}
		}
	})
	soon(t, "Bytes and Copy", func() {
		for i := range 20000 {
			if c := s.Copy(); c.Bytes() != s.Bytes() || len(c.Bytes()) != most*32 {
				t.Errorf("%d", i)
				return
			}
		}
	})
	soon(t, "New", func() {
		for range 20000 {
			if s, e := store.New(most); e != api.OK || s.Blocks() != most {
				t.Errorf("%d", e)
				return
			}
		}
	})
}
