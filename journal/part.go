package journal

import (
	"iter"
	"strings"

	"replevin/api"
	"replevin/store"
)

// part is some of a store's blocks, one behind the other; its own blocks are told from 0 on.
type part struct {
	store        *store.Store
	from, blocks int
}

// newPart tells a part, if there is such a one.
func newPart(s *store.Store, from, blocks int) (part, bool) {
	// Where the part would end isn't added up, as that might wrap round.
	if s == nil || blocks < 1 || from < 0 || from > s.Blocks()-blocks {
		return part{}, false
	}
	return part{store: s, from: from, blocks: blocks}, true
}

// size tells how many bytes the part has.
func (p part) size() int { return p.blocks * store.Size }

// bytes tells the part's bytes, also while the store is down.
func (p part) bytes() string {
	at := p.from * store.Size
	return p.store.Bytes()[at : at+p.size()]
}

// clearing tells each block that isn't clear behind a place, rising, and what clears it.
func (p part) clearing(place int) iter.Seq2[int, string] {
	return func(yield func(int, string) bool) {
		all := p.bytes()
		for i := place / store.Size; i < p.blocks; i++ {
			at := i * store.Size
			was := all[at : at+store.Size]
			cleared := filled(was[:max(place-at, 0)])
			if cleared != was && !yield(i, cleared) {
				return
			}
		}
	}
}

// laying tells each block in which bytes at a place lie, rising, and what lays them there.
func (p part) laying(place int, bytes string) iter.Seq2[int, string] {
	return func(yield func(int, string) bool) {
		i := place / store.Size
		rest := p.bytes()[i*store.Size:place] + bytes
		for ; rest != ""; i++ {
			many := min(len(rest), store.Size)
			if !yield(i, filled(rest[:many])) {
				return
			}
			rest = rest[many:]
		}
	}
}

// write writes what is told of each block, up to the store's first error.
func (p part) write(told iter.Seq2[int, string]) api.Errno {
	for i, data := range told {
		if e := p.store.Write(p.from+i, data); e != api.OK {
			return e
		}
	}
	return api.OK
}

// filled tells a block that begins with these bytes, and is 0 behind them.
func filled(ahead string) string {
	return ahead + strings.Repeat("\x00", store.Size-len(ahead))
}
