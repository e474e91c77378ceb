package store

// fuse tells which write is torn; without one none is.
type fuse struct {
	is     bool
	whole  int // how many writes are whole yet
	prefix int // how many bytes are written of the one behind them
}

func newFuse(writes, prefix int) fuse {
	if writes < 0 {
		return fuse{}
	}
	return fuse{is: true, whole: writes, prefix: max(prefix, 0) % (Size + 1)}
}

// tears tells whether the next write is torn; one that isn't counts.
func (f *fuse) tears() bool {
	if !f.is {
		return false
	}
	if f.whole == 0 {
		return true
	}
	f.whole--
	return false
}
