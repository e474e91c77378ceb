package journal_test

import (
	"fmt"
	"math"
	"math/rand"
	"slices"
	"strings"
	"testing"
	"time"

	"replevin/api"
	"replevin/journal"
	"replevin/log"
	"replevin/store"
)

// slow is a journal by the chapter's words, that goes through its bytes one by one.
type slow struct {
	s            *store.Store
	from, blocks int
	l            []string
	end          int
	cut          bool
}

// block tells the bytes of a part's block, each as a function tells it, and whether one of them was touched.
func (q *slow) block(i int, each func(place int, was byte) (byte, bool)) (string, bool) {
	b, touched := make([]byte, size), false
	for n := range b {
		is := false
		b[n], is = each(i*size+n, q.s.Bytes()[(q.from+i)*size+n])
		touched = touched || is
	}
	return string(b), touched
}

// write writes each block of which a byte is touched.
func (q *slow) write(each func(place int, was byte) (byte, bool)) api.Errno {
	for i := range q.blocks {
		b, touched := q.block(i, each)
		if touched {
			if e := q.s.Write(q.from+i, b); e != api.OK {
				return e
			}
		}
	}
	return api.OK
}

func (q *slow) look() ([]string, int) {
	return log.Scan(q.s.Bytes()[q.from*size : (q.from+q.blocks)*size])
}

func (q *slow) open() api.Errno {
	l, end := q.look()
	if e := q.write(func(place int, was byte) (byte, bool) {
		if place < end {
			return was, false
		}
		return 0, was != 0
	}); e != api.OK {
		return e
	}
	q.l, q.end, q.cut = l, end, false
	return api.OK
}

func (q *slow) append(record string) api.Errno {
	frame, e := log.Frame(record)
	if e != api.OK {
		return e
	}
	behind := q.end + len(frame)
	if behind > q.blocks*size {
		return api.ErrFull
	}
	if q.cut {
		return api.ErrDown
	}
	if e := q.write(func(place int, was byte) (byte, bool) {
		switch {
		case place < q.end:
			return was, false
		case place < behind:
			return frame[place-q.end], true
		}
		return 0, false
	}); e != api.OK {
		q.cut = true
		return e
	}
	q.l, q.end = append(q.l, record), behind
	return api.OK
}

// pair is journals on parts of a store, and what their answers are held against.
type pair struct {
	s, copied *store.Store
	l         []*journal.Journal
	q         []*slow
}

func newPair(t *testing.T, blocks int, all [][2]int) pair {
	t.Helper()
	p := pair{s: made(t, blocks), copied: made(t, blocks)}
	for _, x := range all {
		p.l = append(p.l, parts(t, p.s, x[0], x[1]))
		p.q = append(p.q, &slow{s: p.copied, from: x[0], blocks: x[1]})
	}
	return p
}

// alike fails unless both tell the same of all that may be asked.
func (p pair) alike(t *testing.T) {
	t.Helper()
	if p.s.Bytes() != p.copied.Bytes() || p.s.Writes() != p.copied.Writes() || p.s.Down() != p.copied.Down() {
		t.Fatalf("%q, %d, not %q, %d", p.s.Bytes(), p.s.Writes(), p.copied.Bytes(), p.copied.Writes())
	}
	for i, q := range p.q {
		stands(t, p.l[i], q.blocks*size-q.end, q.l...)
		l, _ := q.look()
		looks(t, p.s, q.from, q.blocks, l...)
	}
	l, _ := log.Scan(p.copied.Bytes())
	looks(t, p.s, 0, p.s.Blocks(), l...)
}

// anyRecord tells bytes whatever, of which many are 0 or 1; some of them have no frame.
func anyRecord(r *rand.Rand) string {
	n := r.Intn(30)
	switch r.Intn(20) {
	case 0:
		n = r.Intn(402)
	case 1:
		n = 0
	case 2, 3:
		n = r.Intn(90)
	}
	b := make([]byte, n)
	for i := range b {
		b[i] = byte(r.Intn(2 + 254*r.Intn(2)))
	}
	return string(b)
}

// opens opens a part again, and tells what that answered.
func (p pair) opens(t *testing.T, i int) api.Errno {
	t.Helper()
	q := p.q[i]
	want := q.open()
	if want != api.OK {
		refuses(t, p.s, q.from, q.blocks, want)
		return want
	}
	p.l[i] = parts(t, p.s, q.from, q.blocks, q.l...)
	return want
}

// turn makes a call of both, and tells what it was, and what it answered.
func (p pair) turn(t *testing.T, r *rand.Rand) string {
	t.Helper()
	i := r.Intn(len(p.l))
	switch r.Intn(16) {
	case 0:
		whole, prefix := r.Intn(5), r.Intn(33)
		p.s.Fuse(whole, prefix)
		p.copied.Fuse(whole, prefix)
		return "Fuse"
	case 1, 2:
		p.s.Up()
		p.copied.Up()
		return "Up"
	case 3, 4, 5:
		return fmt.Sprint("Part ", p.opens(t, i))
	case 6:
		at, bytes := r.Intn(p.s.Blocks()), strings.Repeat(string([]byte{byte(r.Intn(3))}), size)
		p.s.Write(at, bytes)
		p.copied.Write(at, bytes)
		// What was written by hand may stand in the records: only a journal that is opened tells them.
		for i := range p.l {
			p.s.Up()
			p.copied.Up()
			p.opens(t, i)
		}
		return "by hand"
	}
	x := anyRecord(r)
	want := p.q[i].append(x)
	appends(t, p.l[i], x, want)
	return fmt.Sprint("Append ", want)
}

// layouts are parts, of nine blocks, that have none in common.
func layouts() [][][2]int {
	return [][][2]int{{{0, 9}}, {{0, 4}, {4, 4}}, {{1, 2}, {3, 5}}, {{8, 1}, {0, 1}, {2, 5}}}
}

// P14.1 to P14.4, of very many calls: all is as the words say.
func TestManyTurns(t *testing.T) {
	r := rand.New(rand.NewSource(14))
	count := map[string]int{}
	for n := range 240 {
		p := newPair(t, 9, layouts()[n%4])
		for range 60 {
			count[p.turn(t, r)]++
			p.alike(t)
		}
	}
	// That these turns try what they are to try.
	for _, what := range []string{"Append 0", "Append 3", "Append 14", "Append 16", "Part 0", "Part 16", "Fuse", "Up", "by hand"} {
		if count[what] < 50 {
			t.Errorf("%s: %d", what, count[what])
		}
	}
}

// three tells a store of three records, and its journal, opened when they were there.
func three(t *testing.T) (*store.Store, *journal.Journal) {
	t.Helper()
	s := holding(t, 5, framed(t, "one", "two", "three"))
	return s, opens(t, s, "one", "two", "three")
}

// R3: what is done with a list that was told changes nothing in the journal, nor in another list.
func TestToldApart(t *testing.T) {
	s, j := three(t)
	opened, first, _ := journal.Open(s)
	_, part, _ := journal.Part(s, 0, 5)
	for _, l := range [][]string{first, part, j.Records(), opened.Records(), journal.Look(s, 0, 5), journal.Records(s)} {
		if !slices.Equal(l, []string{"one", "two", "three"}) {
			t.Errorf("%q", l)
		}
		l[0] = "other"
		_ = append(l[:1], "more", "and more", "and more yet")
		for _, k := range []*journal.Journal{j, opened} {
			stands(t, k, 160-35, "one", "two", "three")
		}
		looks(t, s, 0, 5, "one", "two", "three")
	}
	appends(t, j, "four", api.OK)
	stands(t, j, 160-47, "one", "two", "three", "four")
	opens(t, s, "one", "two", "three", "four")
}

// R3: a list that was told stays as it is, and so does what is put behind it, whatever is appended to the journal.
func TestToldStays(t *testing.T) {
	s := made(t, 8)
	j, l, _ := journal.Open(s)
	told := [][]string{append(l, "behind")}
	var all []string
	for i := range 20 {
		all = append(all, record(3, i))
		appends(t, j, record(3, i), api.OK)
		told = append(told, append(j.Records(), "behind"), append(journal.Look(s, 0, 8), "behind"))
		if i%5 == 4 {
			j, l, _ = journal.Open(s)
			told = append(told, append(l, "behind"))
		}
		stands(t, j, 256-11*len(all), all...)
	}
	for _, l := range told {
		n := len(l) - 1
		if !slices.Equal(l[:n], all[:n]) || l[n] != "behind" {
			t.Errorf("%q", l)
		}
	}
}

// R3: a text of which a piece is appended may be anything.
func TestGivenStays(t *testing.T) {
	text := record(300, 3)
	was := strings.Clone(text)
	s := made(t, 20)
	j := opens(t, s)
	appends(t, j, text[7:90], api.OK)
	appends(t, j, text, api.OK)
	appends(t, j, text[:299], api.ErrFull)
	stands(t, j, 640-91-308, was[7:90], was)
	if text != was {
		t.Errorf("%q", text)
	}
}

// R3 and P14.3: a copy of a store is another store, which a journal of the first one doesn't write.
func TestStoreCopied(t *testing.T) {
	s, j := three(t)
	c := s.Copy()
	n, was := c.Writes(), c.Bytes()
	appends(t, j, "four", api.OK)
	holds(t, c, n, was)
	k := opens(t, c, "one", "two", "three")
	appends(t, k, "other", api.OK)
	opens(t, s, "one", "two", "three", "four")
	opens(t, c, "one", "two", "three", "other")
}

// R5: journals of two stores stand apart, also where one of them is down.
func TestStoresApart(t *testing.T) {
	a, b := made(t, 3), made(t, 4)
	j, k := opens(t, a), opens(t, b)
	appends(t, j, "a", api.OK)
	stands(t, k, 128)
	holds(t, b, 0, "")
	a.Fuse(0, 20)
	appends(t, j, "more", api.ErrDown)
	appends(t, k, "b", api.OK)
	stands(t, j, 96-9, "a")
	stands(t, k, 128-9, "b")
	looks(t, a, 0, 3, "a")
	looks(t, b, 0, 4, "b")
}

// R4: the same calls in the same order answer the same, whatever is asked of another store between.
func TestSameAgain(t *testing.T) {
	var was []string
	for turn := range 3 {
		r, between := rand.New(rand.NewSource(144)), rand.New(rand.NewSource(int64(turn)))
		p, other := newPair(t, 9, layouts()[3]), newPair(t, 9, layouts()[turn])
		for i := range 200 {
			told := fmt.Sprintf("%s %q %d", p.turn(t, r), p.s.Bytes(), p.s.Writes())
			for _, j := range p.l {
				told += fmt.Sprintf(" %q %d", j.Records(), j.Room())
			}
			for range turn {
				other.turn(t, between)
			}
			if turn == 0 {
				was = append(was, told)
			} else if was[i] != told {
				t.Fatalf("%s, not %s", told, was[i])
			}
		}
	}
}

// soon fails unless a call ends in a time in which it could be made many times over.
func soon(t *testing.T, what string, call func()) {
	t.Helper()
	ended := make(chan struct{})
	go func() {
		defer close(ended)
		call()
	}()
	select {
	case <-ended:
	case <-time.After(30 * time.Second):
		t.Fatalf("%s: not soon", what)
	}
}

// R1: a store of as many blocks as may be, full of as many records as may be.
func TestFullSoon(t *testing.T) {
	const most = 8192 / 9
	soon(t, "Append, Records and Room", func() {
		s := made(t, 256)
		j, _, _ := journal.Open(s)
		for i := range most {
			if e := j.Append("x"); e != api.OK || j.Room() != 8192-9*(i+1) || len(j.Records()) != i+1 {
				t.Errorf("%d: %d", i, e)
				return
			}
		}
		for range 10000 {
			if j.Append("x") != api.ErrFull || j.Append("") != api.ErrRange {
				t.Error("it is full")
				return
			}
		}
	})
	soon(t, "Open, Part, Look and Records", func() {
		all := strings.Repeat(framed(t, "x"), most)
		s := holding(t, 256, all)
		for range 300 {
			lay(t, s, 0, all)
			told, looked := journal.Records(s), journal.Look(s, 0, 256)
			_, l, e := journal.Open(s)
			// The frame that reaches behind this part is cleared in it.
			_, k, f := journal.Part(s, 0, 255)
			if len(told) != most || len(looked) != most || len(l) != most || e != api.OK || len(k) != 8160/9 || f != api.OK {
				t.Errorf("%d, %d, %d, %d, %d, %d", len(told), len(looked), len(l), e, len(k), f)
				return
			}
		}
	})
}

// R1: numbers and texts whatever.
func TestWhateverSoon(t *testing.T) {
	s, j := three(t)
	long := strings.Repeat("\x01", 1<<26)
	soon(t, "Append of a long text", func() {
		for range 1000 {
			appends(t, j, long, api.ErrRange)
		}
	})
	soon(t, "Part and Look", func() {
		numbers := []int{math.MinInt, math.MinInt + 1, -1 << 32, -1, 0, 5, 6, 255, 256, 257, 1 << 31, 1 << 32, 1 << 58, 1 << 59, math.MaxInt - 5, math.MaxInt - 1, math.MaxInt}
		for _, from := range numbers {
			for _, blocks := range numbers {
				if from != 0 || blocks != 5 {
					refuses(t, s, from, blocks, api.ErrArg)
					looks(t, s, from, blocks)
				}
			}
		}
	})
	opens(t, s, "one", "two", "three")
}
