package log_test

import (
	"fmt"
	"slices"
	"strings"
	"testing"

	"replevin/log"
)

// good are records that may be, and of which some look like something else.
func good() []string {
	return []string{
		"one", "a", "\x00", "\x01", zeros(400), strings.Repeat("\x01", 400), record(255, 3), record(256, 4), "\x00\x01\x00", "\x01\x00\x01",
		slowFrame("within"), slowFrame(slowFrame("a")), slowFrame("a") + slowFrame("b"), slowFrame("cut")[:6], zeros(7) + slowFrame("a"), slowFrame("")[:8], "last",
	}
}

// behind are bytes that no frame begins with.
func behind() []string {
	return []string{
		zeros(1), zeros(2), zeros(7), zeros(8), zeros(9), zeros(408), zeros(5000), "\x01", "\x01\x00", "\x01\x00\x01", "x", "\x02" + slowFrame("a")[1:], "\x00" + slowFrame("a"),
		strings.Repeat("\x01", 8), strings.Repeat("\x01", 9), strings.Repeat("\x01", 500), strings.Repeat("\xff", 8), strings.Repeat("\xff", 70000),
		slowFrame(""), slowFrame(record(401, 1)), slowFrame(record(65535, 1)), slowFrame("a")[:7], slowFrame("a")[1:],
	}
}

// P13.2: of bytes that no frame begins with there is no record, and nothing ends anywhere.
func TestScanNone(t *testing.T) {
	scans(t, "", nil, 0)
	for _, s := range behind() {
		scans(t, s, nil, 0)
		scans(t, s+slowFrame("a"), nil, 0)
	}
}

// P13.2 and P13.3: each record comes back from its frame, whatever stands behind.
func TestScanOne(t *testing.T) {
	for _, s := range good() {
		scans(t, slowFrame(s), []string{s}, len(s)+8)
		for _, more := range behind() {
			scans(t, slowFrame(s)+more, []string{s}, len(s)+8)
			scans(t, slowFrame(s)+more+slowFrame(s), []string{s}, len(s)+8)
		}
	}
}

// P13.3: a record of each length that may be comes back, from its frame, and from two.
func TestScanLengths(t *testing.T) {
	for n := 1; n <= most; n++ {
		for _, s := range []string{record(n, n), zeros(n), strings.Repeat("\x01", n)} {
			scans(t, joined(t, s), []string{s}, n+8)
			scans(t, joined(t, s, s), []string{s, s}, 2*n+16)
		}
	}
}

// P13.3: records of each byte come back.
func TestScanBytes(t *testing.T) {
	var l []string
	for i := range 256 {
		l = append(l, string([]byte{byte(i)}), strings.Repeat(string([]byte{byte(i)}), i+1))
	}
	s := joined(t, l...)
	scans(t, s, l, len(s))
	scans(t, s+zeros(100), l, len(s))
}

// P13.2 and P13.3: the records of many frames, whatever stands behind.
func TestScanMany(t *testing.T) {
	l := good()
	s := joined(t, l...)
	scans(t, s, l, len(s))
	for _, more := range behind() {
		scans(t, s+more, l, len(s))
		scans(t, s+more+s, l, len(s))
	}
	scans(t, s+s, append(slices.Clone(l), l...), 2*len(s))
}

// P13.2: a length of 0, and one of more than 400, is no record's, though the frame is whole and its sum its own.
func TestScanLengthWrong(t *testing.T) {
	for _, ahead := range [][]string{nil, {"a"}, {"a", record(400, 1)}} {
		s := joined(t, ahead...)
		for _, n := range []int{0, 401, 402, 511, 512, 656, 32768, 65535} {
			for _, x := range []string{slowFrame(zeros(n)), slowFrame(record(n, 1)), slowFrame(strings.Repeat("\x01", n))} {
				scans(t, s+x, ahead, len(s))
				scans(t, s+x+slowFrame("b"), ahead, len(s))
			}
		}
	}
}

// P13.2: one byte of a frame's is another one, whichever and however: the records ahead are told, and where the last one's frame ends.
func TestScanByteWrong(t *testing.T) {
	for _, ahead := range [][]string{nil, {"a"}, {"one", zeros(9), "\x01"}} {
		for _, s := range []string{"a", "\x00", "\x01", "some bytes", zeros(3)} {
			before, f := joined(t, ahead...), slowFrame(s)
			for i := range f {
				for x := 1; x < 256; x++ {
					b := []byte(f)
					b[i] ^= byte(x)
					scans(t, before+string(b)+slowFrame("b"), ahead, len(before))
					scans(t, before+string(b)+zeros(500), ahead, len(before))
				}
			}
		}
	}
}

// P13.2: the sum of another record isn't its own, nor are its own sum's bytes in another order.
func TestScanSumWrong(t *testing.T) {
	f, g := slowFrame("abc"), slowFrame("abd")
	for _, s := range []string{f[:7] + g[7:], g[:7] + f[7:], f[:3] + zeros(4) + f[7:], f[:3] + "\xff\xff\xff\xff" + f[7:]} {
		scans(t, s, nil, 0)
	}
	b := []byte(f)
	slices.Reverse(b[3:7])
	scans(t, string(b), nil, 0)
	b = []byte(f)
	b[1], b[2] = b[2], b[1]
	scans(t, string(b)+zeros(800), nil, 0)
}

// P13.2 and P13.3: frames of which the last one is cut off, at any place, and whatever bytes 0 come behind.
func TestScanCut(t *testing.T) {
	l := []string{"one", record(300, 2), "\x01", zeros(5), slowFrame("in"), "\x01\x00\x01\x01", "last"}
	s := joined(t, l...)
	for cut := range len(s) + 1 {
		n, end := 0, 0
		for n < len(l) && end+len(l[n])+8 <= cut {
			end += len(l[n]) + 8
			n++
		}
		for _, more := range []int{0, 1, 2, 8, 31, 400, 1000} {
			scans(t, s[:cut]+zeros(more), l[:n], end)
		}
	}
}

// P13.3: of each length that may be, a frame of which the last bytes are 0, though its record's are, too.
func TestScanCutLengths(t *testing.T) {
	for n := 1; n <= most; n++ {
		for _, s := range []string{zeros(n), zeros(n-1) + "\x01", strings.Repeat("\x01", n)} {
			f := joined(t, s)
			for _, cut := range []int{0, 1, 2, 3, 6, 7, n, n + 6, n + 7} {
				scans(t, f[:cut]+zeros(n+8-cut), nil, 0)
				scans(t, joined(t, "a")+f[:cut]+zeros(500), []string{"a"}, 9)
			}
		}
	}
}

// P13.2: a frame within a record isn't one more, nor one behind bytes that are no frame.
func TestScanWithin(t *testing.T) {
	in := slowFrame("x")
	for _, s := range []string{in, in + in, "\x00" + in, in[:8]} {
		scans(t, slowFrame(s), []string{s}, len(s)+8)
		scans(t, slowFrame(s)+"\x00"+in, []string{s}, len(s)+8)
		b := []byte(slowFrame(s))
		b[0] = 0
		scans(t, string(b), nil, 0)
		b[0], b[len(b)-1] = 1, 0
		scans(t, string(b), nil, 0)
	}
}

// P13.2: of Scan's answer all ahead of the end is the frames of the records, and at the end none stands.
func TestScanEnd(t *testing.T) {
	for i, more := range append(behind(), "") {
		s := joined(t, good()...) + more
		l, end := log.Scan(s)
		if s[:end] != joined(t, l...) {
			t.Errorf("%d: %d records, %d bytes", i, len(l), end)
		}
		scans(t, s[end:], nil, 0)
		scans(t, s[:end], l, end)
	}
}

// P13.2: any one byte more, or less, within frames: what is told is as the words say.
func TestScanShifted(t *testing.T) {
	s := joined(t, "one", "\x01\x01\x01", zeros(12), "last")
	for at := range len(s) {
		for _, x := range []string{s[:at] + s[at+1:], s[:at] + "\x00" + s[at:], s[:at] + "\x01" + s[at:]} {
			l, end := slowScan(x)
			scans(t, x, l, end)
		}
	}
	if l, _ := slowScan(s); len(l) != 4 {
		t.Error(fmt.Sprint(l))
	}
}
