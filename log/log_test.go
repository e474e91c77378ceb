package log_test

import (
	"slices"
	"strings"
	"testing"

	"replevin/api"
	"replevin/log"
)

const (
	most  = 400
	extra = 8
)

// slowSum is a record's sum by the chapter's words, of 32 bits that are kept one by one, the lowest one first.
func slowSum(s string) uint32 {
	sum, mask := bits(4294967295), bits(3988292384)
	for i := range len(s) {
		sum = xored(sum, bits(uint32(s[i])))
		for range 8 {
			out := sum[0]
			copy(sum[:], sum[1:])
			sum[31] = false
			if out {
				sum = xored(sum, mask)
			}
		}
	}
	n := uint32(0)
	for i, is := range sum {
		if !is {
			n += 1 << i
		}
	}
	return n
}

func bits(n uint32) [32]bool {
	var l [32]bool
	for i := range l {
		l[i] = n%2 == 1
		n /= 2
	}
	return l
}

func xored(a, b [32]bool) [32]bool {
	for i := range a {
		a[i] = a[i] != b[i]
	}
	return a
}

// slowFrame is a record's frame by the chapter's words, however many bytes it has.
func slowFrame(record string) string {
	n, sum := len(record), slowSum(record)
	l := []byte{1, byte(n / 256), byte(n % 256)}
	l = append(l, byte(sum/16777216), byte(sum/65536%256), byte(sum/256%256), byte(sum%256))
	return string(append(append(l, record...), 1))
}

// slowScan is the records of bytes by the chapter's words: at each place the frame that might stand there is made anew.
func slowScan(s string) ([]string, int) {
	var l []string
	end := 0
	for {
		n := 0
		if len(s) >= end+3 {
			n = int(s[end+1])*256 + int(s[end+2])
		}
		if n < 1 || n > most || len(s) < end+n+extra {
			return l, end
		}
		record := s[end+7 : end+7+n]
		if s[end:end+n+extra] != slowFrame(record) {
			return l, end
		}
		l = append(l, record)
		end += n + extra
	}
}

// record tells so many bytes, all of them other ones than those of a neighbouring number.
func record(many, n int) string {
	b := make([]byte, many)
	for i := range b {
		b[i] = byte(n + 7*i)
	}
	return string(b)
}

// zeros are so many bytes 0.
func zeros(many int) string { return strings.Repeat("\x00", many) }

// sums fails unless a Sum answers so.
func sums(t *testing.T, s string, want uint32) {
	t.Helper()
	if n := log.Sum(s); n != want {
		t.Errorf("%d bytes: %d, not %d", len(s), n, want)
	}
}

// frames fails unless a Frame answers so.
func frames(t *testing.T, record, want string, no api.Errno) {
	t.Helper()
	if f, e := log.Frame(record); f != want || e != no {
		t.Errorf("%d bytes: %q, %d, not %q, %d", len(record), f, e, want, no)
	}
}

// joins fails unless a Join answers so.
func joins(t *testing.T, l []string, want string, no api.Errno) {
	t.Helper()
	if s, e := log.Join(l); s != want || e != no {
		t.Errorf("%d records: %d bytes, %d, not %d, %d", len(l), len(s), e, len(want), no)
	}
}

// scans fails unless a Scan answers so.
func scans(t *testing.T, s string, want []string, end int) {
	t.Helper()
	if l, n := log.Scan(s); !slices.Equal(l, want) || n != end {
		t.Errorf("%d bytes: %d records to %d, not %d to %d", len(s), len(l), n, len(want), end)
	}
}

// joined tells the frames of records that may be.
func joined(t *testing.T, l ...string) string {
	t.Helper()
	s, e := log.Join(l)
	if e != api.OK {
		t.Fatalf("%d records: %d", len(l), e)
	}
	return s
}

// P13.1: the chapter's example.
func TestExample(t *testing.T) {
	sums(t, "123456789", 3421780262)
	frames(t, "123456789", "\x01\x00\x09\xcb\xf4\x39\x26123456789\x01", api.OK)
	scans(t, "\x01\x00\x09\xcb\xf4\x39\x26123456789\x01", []string{"123456789"}, 17)
}

// P13.1: a record has at most 400 bytes, and its frame 8 more.
func TestConstants(t *testing.T) {
	if log.Most != most || log.Extra != extra {
		t.Errorf("%d, %d, not %d, %d", log.Most, log.Extra, most, extra)
	}
}

// P13.1: sums that are known: of no bytes, and of one.
func TestSumKnown(t *testing.T) {
	for s, want := range map[string]uint32{"": 0, "\x00": 3523407757, "\xff": 4278190080, "a": 3904355907, "The quick brown fox jumps over the lazy dog": 1095738169} {
		sums(t, s, want)
	}
}

// P13.1: the sum of each byte, and of each byte ahead of, and behind, another one.
func TestSumBytes(t *testing.T) {
	for i := range 256 {
		s := string([]byte{byte(i)})
		for _, s := range []string{s, s + s, s + "\x00", "\x00" + s, s + "\xff", "\xff" + s, "a" + s, s + "a"} {
			sums(t, s, slowSum(s))
		}
	}
}

// P13.1: a sum has no bound of bytes: those of a record aren't one of it, either.
func TestSumLong(t *testing.T) {
	for _, n := range []int{2, 3, 31, 32, 255, 256, 257, 399, 400, 401, 408, 65535, 65536, 70001} {
		for _, s := range []string{zeros(n), strings.Repeat("\xff", n), strings.Repeat("\x01", n), record(n, 3), zeros(n-1) + "\x80", "\x01" + zeros(n-1)} {
			sums(t, s, slowSum(s))
		}
	}
}

// P13.1: the bytes count in their order, and how many of them there are counts, be they 0 or not.
func TestSumOrder(t *testing.T) {
	seen := map[uint32]string{}
	for _, s := range []string{"", "\x00", "\x00\x00", zeros(3), zeros(400), "ab", "ba", "a", "b", "aab", "aba", "\xff", "\xff\xff", zeros(4) + "\xff"} {
		n := log.Sum(s)
		if was, ok := seen[n]; ok {
			t.Errorf("%q and %q: %d", was, s, n)
		}
		seen[n] = s
	}
}

// P13.1: the bytes of a text are told, whatever runes they might be.
func TestSumRunes(t *testing.T) {
	for _, s := range []string{"é", "日本", "\xc3", "\xe2\x82", "\xed\xa0\x80", "a\xffb", "\ufffd", "\U0001F600"} {
		sums(t, s, slowSum(s))
		frames(t, s, slowFrame(s), api.OK)
		scans(t, slowFrame(s), []string{s}, len(s)+8)
	}
}

// P13.1: each byte of a frame, of each length that a record may have.
func TestFrame(t *testing.T) {
	for n := 1; n <= most; n++ {
		for _, s := range []string{record(n, n), zeros(n), strings.Repeat("\x01", n), strings.Repeat("\xff", n)} {
			f, e := log.Frame(s)
			if e != api.OK || len(f) != n+extra {
				t.Fatalf("%d: %d bytes, %d", n, len(f), e)
			}
			sum := slowSum(s)
			for i, want := range []int{1, n >> 8, n & 255, int(sum >> 24), int(sum >> 16 & 255), int(sum >> 8 & 255), int(sum & 255)} {
				if int(f[i]) != want {
					t.Errorf("%d, byte %d: %d, not %d", n, i, f[i], want)
				}
			}
			if f[7:7+n] != s || f[7+n] != 1 {
				t.Errorf("%d: %q, %d", n, f[7:7+n], f[7+n])
			}
		}
	}
}

// P13.1: frames that were made by hand: of 255, 256 and 400 bytes the two bytes of the length are others.
func TestFrameKnown(t *testing.T) {
	frames(t, "a", "\x01\x00\x01\xe8\xb7\xbe\x43a\x01", api.OK)
	frames(t, "\x00", "\x01\x00\x01\xd2\x02\xef\x8d\x00\x01", api.OK)
	frames(t, "\xff", "\x01\x00\x01\xff\x00\x00\x00\xff\x01", api.OK)
	for n, want := range map[int]string{1: "\x01\x00\x01", 255: "\x01\x00\xff", 256: "\x01\x01\x00", 257: "\x01\x01\x01", 400: "\x01\x01\x90"} {
		if f, e := log.Frame(record(n, 5)); len(f) != n+8 || f[:3] != want || e != api.OK {
			t.Errorf("%d: %q, %d", n, f[:3], e)
		}
	}
}

// P13.1 and R2: what hasn't 1 to 400 bytes has no frame.
func TestFrameWrong(t *testing.T) {
	for _, n := range []int{0, 401, 402, 408, 512, 655, 656, 65535, 65536, 65537, 65536 + 400, 1 << 20} {
		frames(t, record(n, 1), "", api.ErrRange)
		frames(t, zeros(n), "", api.ErrRange)
	}
}

// P13.1 and R6: the frames of no record, of one and of many, in their order.
func TestJoin(t *testing.T) {
	joins(t, nil, "", api.OK)
	joins(t, []string{}, "", api.OK)
	joins(t, []string{"a"}, slowFrame("a"), api.OK)
	joins(t, []string{"a", "b"}, slowFrame("a")+slowFrame("b"), api.OK)
	joins(t, []string{"b", "a", "b"}, slowFrame("b")+slowFrame("a")+slowFrame("b"), api.OK)
	var l []string
	want := ""
	for n := 1; n <= most; n++ {
		l = append(l, record(n, 2*n))
		want += slowFrame(record(n, 2*n))
		joins(t, l, want, api.OK)
	}
}

// P13.1 and R2: one that has no frame, wherever it is among those that have one, and there is no text.
func TestJoinWrong(t *testing.T) {
	good := []string{"a", record(400, 2), zeros(7), "last"}
	for _, bad := range []string{"", record(401, 1), zeros(65536)} {
		joins(t, []string{bad}, "", api.ErrRange)
		joins(t, []string{bad, bad}, "", api.ErrRange)
		for i := range len(good) + 1 {
			joins(t, slices.Insert(slices.Clone(good), i, bad), "", api.ErrRange)
			joins(t, slices.Insert(slices.Clone(good), i, bad, "", record(401, 1)), "", api.ErrRange)
		}
	}
	joins(t, good, slowFrame(good[0])+slowFrame(good[1])+slowFrame(good[2])+slowFrame(good[3]), api.OK)
}
