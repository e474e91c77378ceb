package log

const (
	edge   = 1         // the byte at both ends of a frame, other than the bytes 0 where nothing is written yet
	before = Extra - 1 // how many bytes of a frame stand ahead of its record
)

// fits tells whether a record may have so many bytes.
func fits(many int) bool { return many >= 1 && many <= Most }

// head tells what stands ahead of the record in its frame.
func head(record string) string {
	many, sum := len(record), Sum(record)
	return string([]byte{
		edge, byte(many >> 8), byte(many),
		byte(sum >> 24), byte(sum >> 16), byte(sum >> 8), byte(sum),
	})
}

// first tells the record of the frame with which s begins; or that none stands there whole, with its own sum.
func first(s string) (string, bool) {
	if len(s) < Extra {
		return "", false
	}
	many := int(s[1])<<8 | int(s[2])
	if !fits(many) || len(s) < many+Extra {
		return "", false
	}
	record := s[before : before+many]
	return record, s[before+many] == edge && s[:before] == head(record)
}
