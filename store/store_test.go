package store_test

import (
	"math"
	"slices"
	"strings"
	"testing"

	"replevin/api"
	"replevin/store"
)

const (
	most  = 256
	least = math.MinInt
)

// zeros is a new block.
var zeros = strings.Repeat("\x00", 32)

// data tells a block's bytes: of two numbers no byte is the same, as long as they are less than 256 apart.
func data(n int) string {
	b := make([]byte, 32)
	for i := range b {
		b[i] = byte(n + 7*i)
	}
	return string(b)
}

// torn tells a block of which only so many bytes were written.
func torn(bytes, was string, many int) string { return bytes[:many] + was[many:] }

// made tells a new store.
func made(t *testing.T, blocks int) *store.Store {
	t.Helper()
	s, e := store.New(blocks)
	if e != api.OK || s == nil {
		t.Fatalf("%d: %d", blocks, e)
	}
	return s
}

// filled tells a store whose blocks are data of these numbers.
func filled(t *testing.T, l ...int) *store.Store {
	t.Helper()
	s := made(t, len(l))
	for i, n := range l {
		writes(t, s, i, data(n), api.OK)
	}
	return s
}

// writes fails unless a Write answers so.
func writes(t *testing.T, s *store.Store, i int, bytes string, want api.Errno) {
	t.Helper()
	if e := s.Write(i, bytes); e != want {
		t.Errorf("%d, %d bytes: %d, not %d", i, len(bytes), e, want)
	}
}

// reads fails unless a Read answers so.
func reads(t *testing.T, s *store.Store, i int, want string, no api.Errno) {
	t.Helper()
	if b, e := s.Read(i); b != want || e != no {
		t.Errorf("%d: %q, %d, not %q, %d", i, b, e, want, no)
	}
}

// stands fails unless a store tells all of this, as often as it is asked.
func stands(t *testing.T, s *store.Store, down bool, many int, want ...string) {
	t.Helper()
	no := api.ErrRange
	if down {
		no = api.ErrDown
	}
	for range 2 {
		if s.Down() != down || s.Writes() != many || s.Blocks() != len(want) {
			t.Errorf("%v, %d writes, %d blocks, not %v, %d, %d", s.Down(), s.Writes(), s.Blocks(), down, many, len(want))
		}
		if b := s.Bytes(); b != strings.Join(want, "") {
			t.Errorf("%q, not %q", b, want)
		}
		for i, b := range want {
			if down {
				reads(t, s, i, "", no)
			} else {
				reads(t, s, i, b, api.OK)
			}
		}
		reads(t, s, -1, "", no)
		reads(t, s, len(want), "", no)
	}
}

// P12.1 and P12.2: the chapter's example.
func TestExample(t *testing.T) {
	s := made(t, 2)
	writes(t, s, 0, strings.Repeat("x", 32), api.OK)
	s.Fuse(0, 2)
	writes(t, s, 0, strings.Repeat("ab", 16), api.ErrDown)
	stands(t, s, true, 1, "ab"+strings.Repeat("x", 30), zeros)
}

// P12.1: as many blocks as may be, and as may not.
func TestNew(t *testing.T) {
	if store.Size != 32 {
		t.Errorf("%d", store.Size)
	}
	for _, blocks := range []int{1, 2, 3, 32, 255, 256} {
		stands(t, made(t, blocks), false, 0, slices.Repeat([]string{zeros}, blocks)...)
	}
	for _, blocks := range []int{0, -1, -2, -256, 257, 258, 512, least, math.MaxInt} {
		if s, e := store.New(blocks); s != nil || e != api.ErrArg {
			t.Errorf("%d: %v, %d", blocks, s, e)
		}
	}
}

// P12.1: blocks that there are, and that there aren't, of a store that is up, and of one that is down.
func TestRead(t *testing.T) {
	for _, blocks := range []int{1, 2, 7, 255, most} {
		var l []int
		for i := range blocks {
			l = append(l, i+3)
		}
		s := filled(t, l...)
		for i, n := range l {
			reads(t, s, i, data(n), api.OK)
		}
		none := []int{-1, -2, -blocks, blocks, blocks + 1, 2 * blocks, most, least, math.MaxInt}
		for _, i := range none {
			reads(t, s, i, "", api.ErrRange)
		}
		s.Fuse(0, 5)
		writes(t, s, 0, data(1), api.ErrDown)
		for i := range l {
			reads(t, s, i, "", api.ErrDown)
		}
		for _, i := range none {
			reads(t, s, i, "", api.ErrDown)
		}
	}
}

// P12.1: blocks that there are, and that there aren't; and R2: the first error of several, and nothing is changed.
func TestWrite(t *testing.T) {
	long := data(9) + data(8)
	for _, c := range []struct {
		i     int
		bytes string
		want  api.Errno
	}{
		{0, data(9), api.OK}, {1, data(9), api.OK}, {2, data(9), api.OK},
		{-1, data(9), api.ErrRange}, {3, data(9), api.ErrRange}, {least, data(9), api.ErrRange}, {math.MaxInt, data(9), api.ErrRange},
		{0, "", api.ErrArg}, {0, long[:1], api.ErrArg}, {0, long[:31], api.ErrArg}, {2, long[:31], api.ErrArg},
		{0, long[:33], api.ErrArg}, {2, long[:33], api.ErrArg}, {1, long, api.ErrArg},
		{-1, "", api.ErrRange}, {3, "", api.ErrRange}, {-1, long[:31], api.ErrRange}, {3, long[:33], api.ErrRange},
	} {
		s := filled(t, 1, 2, 3)
		was, many := []string{data(1), data(2), data(3)}, 3
		writes(t, s, c.i, c.bytes, c.want)
		if c.want == api.OK {
			was[c.i] = c.bytes
			many++
		}
		stands(t, s, false, many, was...)
	}
}

// P12.1 and R2: of a store that is down all writes tell that first, and nothing is changed.
func TestWriteDown(t *testing.T) {
	s := filled(t, 1, 2, 3)
	s.Fuse(0, 4)
	writes(t, s, 1, data(5), api.ErrDown)
	was := torn(data(5), data(2), 4)
	for _, i := range []int{0, 1, 2, -1, 3, least, math.MaxInt} {
		for _, bytes := range []string{data(9), "", data(9)[:31], data(9) + "x", data(9) + data(8)} {
			writes(t, s, i, bytes, api.ErrDown)
			stands(t, s, true, 3, data(1), was, data(3))
		}
	}
}

// P12.1 and P12.3: what is written is read, whatever its bytes, and no other block changes.
func TestWriteRead(t *testing.T) {
	s := made(t, most)
	was := slices.Repeat([]string{zeros}, most)
	many := 0
	for _, i := range []int{0, most - 1, 1, most - 2, 100, 101, 99, 100, 0, 0, most - 1} {
		many++
		was[i] = data(many * 5)
		writes(t, s, i, was[i], api.OK)
		stands(t, s, false, many, was...)
	}
	for i, bytes := range []string{zeros, strings.Repeat("\xff", 32), strings.Repeat("é", 16), strings.Repeat("\xc3\x28", 16), "\x00" + data(1)[1:], data(1)[:31] + "\x00"} {
		was[i*50] = bytes
		writes(t, s, i*50, bytes, api.OK)
		stands(t, s, false, many+i+1, was...)
	}
}

// P12.2: how many writes there were, of one block as of several, and of the same bytes again.
func TestWrites(t *testing.T) {
	s := made(t, 2)
	for i := range 100 {
		stands(t, s, false, i, s.Bytes()[:32], s.Bytes()[32:])
		writes(t, s, i%3%2, data(i/9), api.OK)
	}
}
