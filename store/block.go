package store

// block is a block's bytes, which go from hand to hand as a value.
type block [Size]byte

// begun tells the block that begins with these bytes, at most Size of them, and goes on as this one, which stays as it is.
func (b block) begun(data string) block {
	copy(b[:], data)
	return b
}
