package store_test

import (
	"math"
	"testing"

	"replevin/api"
	"replevin/store"
)

// prefixes are prefixes, and how many bytes each of them writes.
var prefixes = map[int]int{
	0: 0, 1: 1, 2: 2, 16: 16, 31: 31, 32: 32, 33: 0, 34: 1, 64: 31, 65: 32, 66: 0, 3300007: 7,
	-1: 0, -2: 0, -32: 0, -33: 0, -34: 0, least: 0, math.MaxInt: math.MaxInt % 33,
}

// lit tells a store of three blocks, data of 1, 2 and 3, with a fuse.
func lit(t *testing.T, whole, prefix int) *store.Store {
	t.Helper()
	s := filled(t, 1, 2, 3)
	s.Fuse(whole, prefix)
	stands(t, s, false, 3, data(1), data(2), data(3))
	return s
}

// P12.2 and P12.3: so many writes are whole, and the one behind them is torn: its first bytes alone, and the store is down.
func TestFuse(t *testing.T) {
	for _, whole := range []int{0, 1, 2, 3, 4, 10, 40} {
		for prefix, many := range prefixes {
			for at := range 3 {
				s := lit(t, whole, prefix)
				was := []string{data(1), data(2), data(3)}
				for n := range whole {
					was[n%3] = data(n + 10)
					writes(t, s, n%3, was[n%3], api.OK)
				}
				stands(t, s, false, whole+3, was...)
				writes(t, s, at, data(99), api.ErrDown)
				was[at] = torn(data(99), was[at], many)
				stands(t, s, true, whole+3, was...)
				writes(t, s, at, data(98), api.ErrDown)
				stands(t, s, true, whole+3, was...)
			}
		}
	}
}

// P12.1: all bytes of a torn write may be written, and it is torn all the same, be they those that were there or not.
func TestFuseWhole(t *testing.T) {
	for _, n := range []int{3, 99} {
		s := lit(t, 0, 32)
		writes(t, s, 2, data(n), api.ErrDown)
		stands(t, s, true, 3, data(1), data(2), data(n))
	}
	for _, prefix := range []int{0, 33} {
		s := lit(t, 0, prefix)
		writes(t, s, 2, data(3), api.ErrDown)
		stands(t, s, true, 3, data(1), data(2), data(3))
	}
}

// P12.2: a fuse of many writes, also of so many as there never are.
func TestFuseFar(t *testing.T) {
	s := lit(t, 1000, 9)
	for i := range 1000 {
		writes(t, s, 1, data(i), api.OK)
	}
	writes(t, s, 1, data(1000), api.ErrDown)
	stands(t, s, true, 1003, data(1), torn(data(1000), data(999), 9), data(3))
	for _, whole := range []int{math.MaxInt, math.MaxInt - 1, 1 << 40} {
		s := lit(t, whole, 9)
		for i := range 1000 {
			writes(t, s, 1, data(i), api.OK)
		}
		stands(t, s, false, 1003, data(1), data(999), data(3))
	}
}

// P12.2: writes below 0 are no fuse, and put out one that there is.
func TestNoFuse(t *testing.T) {
	for _, none := range []int{-1, -2, -33, least} {
		for prefix := range prefixes {
			for _, s := range []*store.Store{filled(t, 1, 2, 3), lit(t, 0, 5), lit(t, 2, 5), lit(t, none, 7)} {
				s.Fuse(none, prefix)
				for i := range 5 {
					writes(t, s, 1, data(i+10), api.OK)
				}
				stands(t, s, false, 8, data(1), data(14), data(3))
			}
		}
	}
}

// P12.2: a fuse that is put again takes the place of the one ahead, of which nothing is left.
func TestFuseAgain(t *testing.T) {
	for _, first := range []int{0, 1, 2, 5, -1} {
		for _, second := range []int{0, 1, 2, 3, 5} {
			for between := range max(first, 0) + 1 {
				s := lit(t, first, 30)
				for range between {
					writes(t, s, 0, data(7), api.OK)
				}
				s.Fuse(second, 2)
				for range second {
					writes(t, s, 0, data(8), api.OK)
				}
				was := s.Bytes()[:32]
				writes(t, s, 0, data(9), api.ErrDown)
				stands(t, s, true, 3+between+second, torn(data(9), was, 2), data(2), data(3))
			}
		}
	}
}

// P12.1: what is refused isn't torn, nor does it count, for the fuse or for Writes.
func TestRefusedDontCount(t *testing.T) {
	refused := func(s *store.Store) {
		for _, i := range []int{-1, 3, least, math.MaxInt} {
			writes(t, s, i, data(9), api.ErrRange)
			writes(t, s, i, "", api.ErrRange)
			reads(t, s, i, "", api.ErrRange)
		}
		for _, bytes := range []string{"", data(9)[:31], data(9) + "x"} {
			writes(t, s, 1, bytes, api.ErrArg)
		}
	}
	for _, whole := range []int{0, 1, 2} {
		s := lit(t, whole, 3)
		refused(s)
		for range whole {
			writes(t, s, 1, data(2), api.OK)
			refused(s)
		}
		stands(t, s, false, 3+whole, data(1), data(2), data(3))
		writes(t, s, 1, data(8), api.ErrDown)
		stands(t, s, true, 3+whole, data(1), torn(data(8), data(2), 3), data(3))
	}
}

// P12.1 and P12.2: writes to a store that is down count for nothing.
func TestDownDontCount(t *testing.T) {
	s := lit(t, 0, 3)
	writes(t, s, 1, data(8), api.ErrDown)
	was := torn(data(8), data(2), 3)
	s.Fuse(1, 1)
	for range 5 {
		writes(t, s, 1, data(9), api.ErrDown)
		stands(t, s, true, 3, data(1), was, data(3))
	}
	s.Up()
	stands(t, s, false, 3, data(1), was, data(3))
	writes(t, s, 0, data(9), api.OK)
	stands(t, s, false, 4, data(9), was, data(3))
}

// P12.2: a store that was down and is up has its bytes yet, and no fuse.
func TestUp(t *testing.T) {
	for prefix, many := range prefixes {
		s := lit(t, 1, prefix)
		writes(t, s, 0, data(7), api.OK)
		writes(t, s, 1, data(8), api.ErrDown)
		was := torn(data(8), data(2), many)
		s.Up()
		stands(t, s, false, 4, data(7), was, data(3))
		for i := range 40 {
			writes(t, s, 2, data(i+10), api.OK)
		}
		stands(t, s, false, 44, data(7), was, data(49))
		s.Fuse(1, prefix)
		writes(t, s, 0, data(60), api.OK)
		writes(t, s, 0, data(61), api.ErrDown)
		stands(t, s, true, 45, torn(data(61), data(60), many), was, data(49))
	}
}

// P12.2: of a store that isn't down Up takes the fuse, and nothing else.
func TestUpOfUp(t *testing.T) {
	for _, whole := range []int{0, 1, 2, -1} {
		s := lit(t, whole, 6)
		for range max(whole, 0) {
			writes(t, s, 0, data(7), api.OK)
		}
		was, many := s.Bytes()[:32], 3+max(whole, 0)
		for range 2 {
			s.Up()
			stands(t, s, false, many, was, data(2), data(3))
		}
		for range 5 {
			writes(t, s, 1, data(8), api.OK)
		}
		stands(t, s, false, many+5, was, data(8), data(3))
	}
	s := made(t, 1)
	s.Up()
	stands(t, s, false, 0, zeros)
}

// P12.2: a fuse that is put while the store is down doesn't let it be up, and is gone when it is.
func TestFuseDown(t *testing.T) {
	for _, whole := range []int{0, 1, 5, -1} {
		s := lit(t, 0, 6)
		writes(t, s, 1, data(8), api.ErrDown)
		was := torn(data(8), data(2), 6)
		s.Fuse(whole, 3)
		stands(t, s, true, 3, data(1), was, data(3))
		writes(t, s, 1, data(9), api.ErrDown)
		stands(t, s, true, 3, data(1), was, data(3))
		s.Up()
		for range 7 {
			writes(t, s, 2, data(9), api.OK)
		}
		stands(t, s, false, 10, data(1), was, data(9))
	}
}

// P12.3: whenever the power goes, of each block so many bytes are new, and the rest is old.
func TestTearsEveryWrite(t *testing.T) {
	for whole := range 6 {
		for prefix := range 33 {
			s := made(t, 3)
			want := []string{zeros, zeros, zeros}
			s.Fuse(whole, prefix)
			for n := range 6 {
				at := n * 2 % 3
				switch {
				case n < whole:
					writes(t, s, at, data(n+1), api.OK)
					want[at] = data(n + 1)
				case n == whole:
					writes(t, s, at, data(n+1), api.ErrDown)
					want[at] = torn(data(n+1), want[at], prefix)
				default:
					writes(t, s, at, data(n+1), api.ErrDown)
				}
			}
			stands(t, s, true, whole, want...)
			s.Up()
			stands(t, s, false, whole, want...)
			if t.Failed() {
				t.Fatalf("%d writes, prefix %d", whole, prefix)
			}
		}
	}
}
