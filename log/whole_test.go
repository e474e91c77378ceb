package log_test

import (
	"fmt"
	"math/rand"
	"slices"
	"strings"
	"testing"
	"time"

	"replevin/api"
	"replevin/log"
)

// anyRecord tells bytes whatever, of which many are 0 or 1; some of them have no frame.
func anyRecord(r *rand.Rand) string {
	n := r.Intn(12)
	switch r.Intn(8) {
	case 0:
		n = r.Intn(401)
	case 1:
		n = 395 + r.Intn(8)
	}
	b := make([]byte, n)
	for i := range b {
		b[i] = byte(r.Intn(2 + 254*r.Intn(2)))
	}
	return string(b)
}

// anyBytes tells frames, spoilt in one way or another.
func anyBytes(r *rand.Rand) string {
	var b strings.Builder
	for range r.Intn(9) {
		f := slowFrame(anyRecord(r))
		switch r.Intn(12) {
		case 0:
			f = f[:r.Intn(len(f)+1)]
		case 1:
			x := []byte(f)
			x[r.Intn(len(x))] ^= byte(1 << r.Intn(8))
			f = string(x)
		case 2:
			f = zeros(r.Intn(20))
		}
		b.WriteString(f)
	}
	return b.String() + zeros(r.Intn(2)*r.Intn(500))
}

// P13.1, of very many records: sums, frames and all frames of a list are as the words say.
func TestManyRecords(t *testing.T) {
	r := rand.New(rand.NewSource(13))
	count := map[string]int{}
	for range 1500 {
		var l []string
		want, no := "", api.OK
		for range r.Intn(7) {
			s := anyRecord(r)
			l = append(l, s)
			sums(t, s, slowSum(s))
			if len(s) < 1 || len(s) > most {
				frames(t, s, "", api.ErrRange)
				no = api.ErrRange
				continue
			}
			frames(t, s, slowFrame(s), api.OK)
			want += slowFrame(s)
		}
		if no != api.OK {
			want = ""
		}
		joins(t, l, want, no)
		count[fmt.Sprint(len(l) > 1, no)]++
	}
	// That these lists try what they are to try.
	for _, what := range []string{"true 0", "true 3", "false 0", "false 3"} {
		if count[what] < 10 {
			t.Errorf("%s: %d", what, count[what])
		}
	}
}

// P13.2, of very many bytes: the records, and where the last one's frame ends, are as the words say.
func TestManyScans(t *testing.T) {
	r := rand.New(rand.NewSource(14))
	count := map[string]int{}
	for range 4000 {
		s := anyBytes(r)
		l, end := slowScan(s)
		scans(t, s, l, end)
		count[fmt.Sprint(len(l) > 0, end == len(s))]++
	}
	// That these bytes try what they are to try.
	for _, what := range []string{"true true", "true false", "false true", "false false"} {
		if count[what] < 100 {
			t.Errorf("%s: %d", what, count[what])
		}
	}
}

// P13.3, of very many lists: all come back, whatever bytes 0 come behind; and all but the last one, if that is cut off.
func TestManyBack(t *testing.T) {
	r := rand.New(rand.NewSource(15))
	count := 0
	for range 1500 {
		var l []string
		for range r.Intn(7) {
			if s := anyRecord(r); len(s) >= 1 && len(s) <= most {
				l = append(l, s)
			}
		}
		s := joined(t, l...)
		scans(t, s, l, len(s))
		scans(t, s+zeros(r.Intn(600)), l, len(s))
		if len(l) == 0 {
			continue
		}
		last := len(s) - len(l[len(l)-1]) - 8
		for range 5 {
			cut := last + r.Intn(len(s)-last)
			scans(t, s[:cut], l[:len(l)-1], last)
			scans(t, s[:cut]+zeros(r.Intn(600)), l[:len(l)-1], last)
		}
		count++
	}
	if count < 1000 {
		t.Errorf("%d lists", count)
	}
}

// P13.1: of as many bytes, sums hang on each other as the words let them.
func TestSumOfParts(t *testing.T) {
	r := rand.New(rand.NewSource(16))
	for range 300 {
		a, b := anyRecord(r), anyRecord(r)
		if len(a) != len(b) {
			b = (b + zeros(len(a)))[:len(a)]
		}
		x := make([]byte, len(a))
		for i := range x {
			x[i] = a[i] ^ b[i]
		}
		// Of as many bytes sums are xored as the bytes are, but for what the bytes 0 have.
		if got, want := log.Sum(a)^log.Sum(b)^log.Sum(zeros(len(a))), log.Sum(string(x)); got != want {
			t.Errorf("%d bytes: %d, not %d", len(a), got, want)
		}
	}
}

// R3: no call changes the list that it is given, nor is anything of it told.
func TestGivenStays(t *testing.T) {
	l := make([]string, 3, 8)
	copy(l, []string{"one", record(400, 2), "last"})
	l[:4][3] = "behind"
	was := slices.Clone(l[:4])
	s := joined(t, l...)
	if _, e := log.Join(append(slices.Clone(l), "")); e != api.ErrRange {
		t.Error(e)
	}
	if !slices.Equal(l[:4], was) {
		t.Errorf("%q", l[:4])
	}
	l[0], l[2] = "other", ""
	scans(t, s, was[:3], len(s))
}

// R3: two answers share no list: what is written to one isn't in the other, nor in the bytes.
func TestToldApart(t *testing.T) {
	s := joined(t, good()...)
	l, _ := log.Scan(s)
	for i := range l {
		l[i] = "other"
	}
	_ = append(l, "more")
	scans(t, s, good(), len(s))
	scans(t, joined(t, good()...), good(), len(s))
}

// R4 and R5: whatever was asked ahead, a call answers the same.
func TestSameAgain(t *testing.T) {
	s := joined(t, good()...)
	for _, ahead := range []func(){
		func() { log.Sum("something else") },
		func() { log.Frame(record(400, 9)) },
		func() { log.Frame("") },
		func() { log.Join([]string{"a", ""}) },
		func() { log.Scan(s[:50]) },
		func() { log.Scan("\x01\x00\x01") },
	} {
		ahead()
		sums(t, "123456789", 3421780262)
		frames(t, "a", slowFrame("a"), api.OK)
		joins(t, []string{"a", "b"}, slowFrame("a")+slowFrame("b"), api.OK)
		scans(t, s, good(), len(s))
		scans(t, "", nil, 0)
	}
}

// soon fails if the call isn't done after half a minute.
func soon(t *testing.T, what string, call func()) {
	t.Helper()
	done := make(chan bool)
	go func() {
		defer close(done)
		call()
	}()
	select {
	case <-done:
	case <-time.After(30 * time.Second):
		t.Fatalf("%s takes too long", what)
	}
}

// R1: texts of very many bytes, of one frame and of none, end soon.
func TestLongTexts(t *testing.T) {
	const many = 1 << 22
	for what, s := range map[string]string{
		"0": zeros(many), "1": strings.Repeat("\x01", many), "255": strings.Repeat("\xff", many), "long": strings.Repeat("\x01\x01\x90\x00\x00\x00\x00", many/7),
	} {
		soon(t, what, func() {
			if log.Sum(s) != log.Sum(s[:1]+s[1:]) {
				t.Error(what)
			}
			frames(t, s, "", api.ErrRange)
			joins(t, []string{s}, "", api.ErrRange)
			scans(t, s, nil, 0)
			scans(t, joined(t, "a")+s, []string{"a"}, 9)
		})
	}
}

// R1: very many frames, of short records and of long ones, end soon.
func TestManyFrames(t *testing.T) {
	for _, s := range []string{"a", "\x01", record(400, 1)} {
		soon(t, fmt.Sprint(len(s)), func() {
			l := slices.Repeat([]string{s}, 4000000/(len(s)+8))
			x := joined(t, l...)
			scans(t, x, l, len(x))
			scans(t, x[:len(x)-1]+zeros(500), l[1:], len(x)-len(s)-8)
			joins(t, append(l, ""), "", api.ErrRange)
		})
	}
}
