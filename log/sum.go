package log

const (
	unsummed = 4294967295 // the sum of no bytes, ahead of its turn
	mask     = 3988292384 // what a sum is xored with when a bit 1 falls out
)

// newSum begins a sum: add goes on with it by a byte, and told tells it of the bytes up to now.
func newSum() (add func(byte), told func() uint32) {
	sum := uint32(unsummed)
	add = func(b byte) {
		sum ^= uint32(b)
		for range 8 {
			sum = moved(sum)
		}
	}
	return add, func() uint32 { return ^sum }
}

// moved tells the sum moved right by one bit.
func moved(sum uint32) uint32 {
	if sum&1 == 1 {
		return sum>>1 ^ mask
	}
	return sum >> 1
}
