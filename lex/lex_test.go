package lex_test

import (
	"fmt"
	"regexp"
	"slices"
	"strconv"
	"strings"
	"testing"

	"replevin/api"
	"replevin/lex"
)

func word(text string, at int) lex.Token {
	return lex.Token{Kind: lex.Word, Text: text, At: at}
}

func number(value, at int) lex.Token {
	return lex.Token{Kind: lex.Number, Text: strconv.Itoa(value), Value: value, At: at}
}

func sign(at int) lex.Token {
	return lex.Token{Kind: lex.Sign, Text: ";", At: at}
}

// answer is all that Lex tells of a text.
type answer struct {
	tokens []lex.Token
	at     int
	e      api.Errno
}

func (a answer) equal(b answer) bool {
	return slices.Equal(a.tokens, b.tokens) && a.at == b.at && a.e == b.e
}

func lexed(s string) answer {
	l, at, e := lex.Lex(s)
	return answer{l, at, e}
}

func short(s string) string {
	if len(s) > 60 {
		return fmt.Sprintf("%q.. (%d bytes)", s[:60], len(s))
	}
	return strconv.Quote(s)
}

func TestKinds(t *testing.T) {
	if lex.Word != 1 || lex.Number != 2 || lex.Sign != 3 {
		t.Errorf("%d, %d, %d", lex.Word, lex.Number, lex.Sign)
	}
}

// P1.1: the tokens of texts that have them.
func TestLexTokens(t *testing.T) {
	long := strings.Repeat("abcde", 4)
	for s, want := range map[string][]lex.Token{
		"":                       nil,
		" ":                      nil,
		"\n \n":                  nil,
		"ab 12;":                 {word("ab", 0), number(12, 3), sign(5)},
		"a":                      {word("a", 0)},
		"z":                      {word("z", 0)},
		"\n a\n":                 {word("a", 2)},
		"a_":                     {word("a_", 0)},
		"a__9_z0":                {word("a__9_z0", 0)},
		"a12 b":                  {word("a12", 0), word("b", 4)},
		"a\nb":                   {word("a", 0), word("b", 2)},
		long:                     {word(long, 0)},
		long + ";" + long:        {word(long, 0), sign(20), word(long, 21)},
		long + " " + long:        {word(long, 0), word(long, 21)},
		"0":                      {number(0, 0)},
		"9":                      {number(9, 0)},
		"10":                     {number(10, 0)},
		"0 0":                    {number(0, 0), number(0, 2)},
		"1048575":                {number(1048575, 0)},
		"1048576":                {number(1048576, 0)},
		"7;a":                    {number(7, 0), sign(1), word("a", 2)},
		"7\na":                   {number(7, 0), word("a", 2)},
		"a 7 ":                   {word("a", 0), number(7, 2)},
		";":                      {sign(0)},
		";;":                     {sign(0), sign(1)},
		" ;\n;":                  {sign(1), sign(3)},
		";a;1;":                  {sign(0), word("a", 1), sign(2), number(1, 3), sign(4)},
		"a  1048576 \n\n ;x_1;0": {word("a", 0), number(1048576, 3), sign(14), word("x_1", 15), sign(18), number(0, 19)},
	} {
		if got := lexed(s); !got.equal(answer{tokens: want}) {
			t.Errorf("%s: %v", short(s), got)
		}
	}
}

// P1.1: ErrForm, and at which byte.
func TestLexErrForm(t *testing.T) {
	for s, at := range map[string]int{
		strings.Repeat("a", 21):                0,
		strings.Repeat("a", 20) + "_":          0,
		strings.Repeat("a", 20) + "0":          0,
		"; " + strings.Repeat("z", 100000):     2,
		"1048577":                              0,
		"a 1048577;":                           2,
		"10485760":                             0,
		"4294967296":                           0,
		"18446744073709551616":                 0,
		"18446744073709551617 a":               0,
		"b\n" + strings.Repeat("9", 100000):    2,
		"01":                                   0,
		"a 00":                                 2,
		"a 01048576":                           2,
		"0" + strings.Repeat("0", 100000):      0,
		"7a":                                   0,
		"a 7z":                                 2,
		"1 7_":                                 2,
		"0_":                                   0,
		"0a":                                   0,
		"12ab34":                               0,
		"01a":                                  0,
		"_":                                    0,
		"_a":                                   0,
		"a _":                                  2,
		"a;_":                                  2,
		"A":                                    0,
		"aB":                                   1,
		"ab12Cd":                               4,
		"7A":                                   1,
		"a A 01":                               2,
		"a 01 A":                               2,
		"a\t":                                  1,
		"a\rb":                                 1,
		"\x00":                                 0,
		"a;-1":                                 2,
		"a,b":                                  1,
		"1.5":                                  1,
		"a\u00e9":                              1,
		"\u00a0a":                              0,
		"a \u017f":                             2,
		"1\uff11":                              1,
		"a\xff":                                1,
		"\x80":                                 0,
		strings.Repeat("a", 20) + "A":          20,
		"1048576A":                             7,
		strings.Repeat(" ", 9) + "x\x7f" + ";": 10,
	} {
		if got := lexed(s); !got.equal(answer{at: at, e: api.ErrForm}) {
			t.Errorf("%s: %v, not at %d", short(s), got, at)
		}
	}
}

// P1.1: every byte but those of words, numbers, signs and gaps begins nothing.
func TestLexEveryByte(t *testing.T) {
	const begins = "abcdefghijklmnopqrstuvwxyz0123456789; \n"
	for c := range 256 {
		b := string([]byte{byte(c)})
		want := answer{at: 2, e: api.ErrForm}
		switch {
		case b == " " || b == "\n":
			want = answer{tokens: []lex.Token{sign(0)}}
		case b == ";":
			want = answer{tokens: []lex.Token{sign(0), sign(2)}}
		case '0' <= c && c <= '9':
			want = answer{tokens: []lex.Token{sign(0), number(c-'0', 2)}}
		case strings.Contains(begins, b):
			want = answer{tokens: []lex.Token{sign(0), word(b, 2)}}
		}
		if got := lexed("; " + b); !got.equal(want) {
			t.Errorf("%q: %v, not %v", b, got, want)
		}
	}
}

// P1.1: ErrMany, and which of it and ErrForm is told.
func TestLexErrMany(t *testing.T) {
	full := strings.Repeat("a ", 5000)
	signs := strings.Repeat(";", 5000)
	for _, c := range []struct {
		s  string
		at int
		e  api.Errno
	}{
		{full + "a", 10000, api.ErrMany},
		{full + "\n  7;", 10003, api.ErrMany},
		{full + ";", 10000, api.ErrMany},
		{signs + ";", 5000, api.ErrMany},
		{signs + "abc", 5000, api.ErrMany},
		{strings.Repeat("10;", 3000), 7500, api.ErrMany},
		{strings.Repeat("a ", 100000), 10000, api.ErrMany},
		{full + "a A", 10000, api.ErrMany},
		{full + "a 01", 10000, api.ErrMany},
		{full + "aB", 10000, api.ErrMany},
		{full + "A a", 10000, api.ErrForm},
		{full + "01 a", 10000, api.ErrForm},
		{full + "7x", 10000, api.ErrForm},
		{full + " 1048577", 10001, api.ErrForm},
		{full + strings.Repeat("a", 21), 10000, api.ErrForm},
		{full + "_", 10000, api.ErrForm},
		{"- " + full + "a", 0, api.ErrForm},
		{strings.Repeat("a ", 4999) + "01 a a", 9998, api.ErrForm},
		{strings.Repeat("a ", 4999) + "a\t a", 9999, api.ErrForm},
	} {
		if got := lexed(c.s); !got.equal(answer{at: c.at, e: c.e}) {
			t.Errorf("%s: %d tokens, %d, %d, not %d, %d", short(c.s[max(0, len(c.s)-30):]), len(got.tokens), got.at, got.e, c.at, c.e)
		}
	}
	for _, s := range []string{full, signs, full + " \n ", strings.Repeat("1;", 2500)} {
		if got := lexed(s); len(got.tokens) != 5000 || got.at != 0 || got.e != api.OK {
			t.Errorf("%s: %d tokens, %d, %d", short(s), len(got.tokens), got.at, got.e)
		}
	}
}

var (
	inner = regexp.MustCompile(`^[a-z0-9_]+`)
	plain = regexp.MustCompile(`^[a-z][a-z0-9_]{0,19}$`)
	digit = regexp.MustCompile(`^(0|[1-9][0-9]{0,6})$`)
)

// told says of a short text, by regular expressions, what Lex should.
func told(s string) answer {
	var l []lex.Token
	for at := 0; at < len(s); {
		part := inner.FindString(s[at:])
		value, _ := strconv.Atoi(part)
		switch {
		case s[at] == ' ' || s[at] == '\n':
			at++
			continue
		case s[at] == ';':
			l = append(l, sign(at))
			part = ";"
		case plain.MatchString(part):
			l = append(l, word(part, at))
		case digit.MatchString(part) && value <= 1048576:
			l = append(l, number(value, at))
		default:
			return answer{at: at, e: api.ErrForm}
		}
		at += len(part)
	}
	return answer{tokens: l}
}

// everyText hands on all texts of up to n of these parts.
func everyText(parts []string, n int, do func(string)) {
	var add func(string, int)
	add = func(s string, left int) {
		do(s)
		if left == 0 {
			return
		}
		for _, p := range parts {
			add(s+p, left-1)
		}
	}
	add("", n)
}

// P1.1, P1.2 and P1.4, of all texts of a few parts.
func TestEveryShortText(t *testing.T) {
	parts := []string{"a", "0", "1", "_", ";", " ", "\n", "B", "048576", strings.Repeat("z", 19)}
	everyText(parts, 5, func(s string) {
		got, want := lexed(s), told(s)
		if !got.equal(want) {
			t.Fatalf("%q: %v, not %v", s, got, want)
		}
		if lex.Name(s) != plain.MatchString(s) {
			t.Fatalf("%q: a word: %v", s, lex.Name(s))
		}
		if got.e == api.OK {
			joinedAgain(t, got.tokens)
		}
	})
}

// joinedAgain fails unless tokens that are joined are the same again, but for where they begin.
func joinedAgain(t *testing.T, l []lex.Token) {
	t.Helper()
	s := lex.Join(l)
	again, at, e := lex.Lex(s)
	if at != 0 || e != api.OK || len(again) != len(l) {
		t.Fatalf("%s: %d tokens, not %d, %d, %d", short(s), len(again), len(l), at, e)
	}
	for i, k := range again {
		if !strings.HasPrefix(s[k.At:], k.Text) {
			t.Fatalf("%s: %v isn't where it begins", short(s), k)
		}
		k.At = l[i].At
		if k != l[i] {
			t.Fatalf("%s: %v, not %v", short(s), k, l[i])
		}
	}
	if lex.Join(again) != s {
		t.Fatalf("%s: joined again %s", short(s), short(lex.Join(again)))
	}
}

// P1.2: Name.
func TestName(t *testing.T) {
	for s, want := range map[string]bool{
		"a": true, "z": true, "a_": true, "a0": true, "z_9a": true,
		strings.Repeat("m", 20):       true,
		"a" + strings.Repeat("_", 19): true,
		strings.Repeat("m", 21):       false,
		strings.Repeat("m", 100000):   false,
		"":                            false, "_": false, "_a": false, "0": false, "1a": false, "A": false, "aB": false,
		" a": false, "a ": false, "a\n": false, "a b": false, ";": false, "a;": false, "a-b": false,
		"\u00e9": false, "a\u00e9": false, "a\xff": false, "a\x00": false, "`": false, "{": false, "a`": false, "a{": false, "a/": false, "a:": false, "a^": false,
	} {
		if lex.Name(s) != want {
			t.Errorf("%s: %v", short(s), !want)
		}
	}
}

// P1.2: Join looks at texts, whatever the kinds are.
func TestJoin(t *testing.T) {
	for _, c := range []struct {
		l    []lex.Token
		want string
	}{
		{nil, ""},
		{[]lex.Token{}, ""},
		{[]lex.Token{word("a", 0)}, "a"},
		{[]lex.Token{sign(0)}, ";\n"},
		{[]lex.Token{sign(0), sign(0)}, ";\n;\n"},
		{[]lex.Token{word("a", 9), number(12, 3), sign(7), word("b", 0), word("c", 0)}, "a 12;\nb c"},
		{[]lex.Token{sign(0), word("a", 0), sign(0)}, ";\na;\n"},
		{[]lex.Token{{Kind: lex.Word, Text: ";"}, {Kind: lex.Word, Text: "a"}}, ";\na"},
		{[]lex.Token{{Text: "a"}, {Kind: -1, Text: ";"}, {Kind: 99, Text: "b"}}, "a;\nb"},
		{[]lex.Token{{Kind: lex.Sign, Text: "a"}, {Kind: lex.Sign, Text: "b"}}, "a b"},
		{[]lex.Token{{Kind: lex.Sign}, {Kind: lex.Sign}}, " "},
		{[]lex.Token{{Text: "a"}, {}, {Text: "b"}}, "a  b"},
		{[]lex.Token{{}, {Text: ";"}, {}}, ";\n"},
		{[]lex.Token{{Text: ";;"}, {Text: " ;"}, {Text: ";\n"}}, ";;  ; ;\n"},
		{[]lex.Token{{Text: "a\n"}, {Text: "\xffB"}, {Text: ";"}}, "a\n \xffB;\n"},
		{[]lex.Token{{Kind: lex.Number, Text: "x", Value: 7, At: -1}, {Kind: lex.Number, Value: 8}}, "x "},
	} {
		if got := lex.Join(c.l); got != c.want {
			t.Errorf("%v: %q, not %q", c.l, got, c.want)
		}
	}
}

// P1.3: the statements, and what is left behind the last sign.
func TestStatements(t *testing.T) {
	a, b, c := word("a", 4), number(7, 6), word("c", 40)
	odd := lex.Token{Kind: lex.Sign, Text: "a", Value: 3, At: -5}
	like := lex.Token{Kind: lex.Word, Text: ";", At: 11}
	strange := lex.Token{Kind: -7, Text: "\xff\n", Value: -1, At: -2}
	for _, k := range []struct {
		l    []lex.Token
		want [][]lex.Token
		at   int
		e    api.Errno
	}{
		{nil, nil, 0, api.OK},
		{[]lex.Token{}, nil, 0, api.OK},
		{[]lex.Token{sign(8)}, [][]lex.Token{nil}, 0, api.OK},
		{[]lex.Token{sign(8), sign(9)}, [][]lex.Token{nil, nil}, 0, api.OK},
		{[]lex.Token{a, b, sign(8), c, sign(9)}, [][]lex.Token{{a, b}, {c}}, 0, api.OK},
		{[]lex.Token{sign(1), a, sign(8), sign(9), b, sign(10)}, [][]lex.Token{nil, {a}, nil, {b}}, 0, api.OK},
		{[]lex.Token{a, odd, b, odd}, [][]lex.Token{{a}, {b}}, 0, api.OK},
		{[]lex.Token{a, like, strange, odd}, [][]lex.Token{{a, like, strange}}, 0, api.OK},
		{[]lex.Token{a}, nil, 4, api.ErrForm},
		{[]lex.Token{c, a}, nil, 40, api.ErrForm},
		{[]lex.Token{a, sign(8), c}, nil, 40, api.ErrForm},
		{[]lex.Token{a, sign(8), sign(9), c, b, a}, nil, 40, api.ErrForm},
		{[]lex.Token{a, like}, nil, 4, api.ErrForm},
		{[]lex.Token{a, sign(8), like}, nil, 11, api.ErrForm},
		{[]lex.Token{a, odd, strange, a}, nil, -2, api.ErrForm},
		{[]lex.Token{a, sign(8), {}}, nil, 0, api.ErrForm},
	} {
		got, at, e := lex.Statements(k.l)
		if !slices.EqualFunc(got, k.want, slices.Equal) || at != k.at || e != k.e {
			t.Errorf("%v: %v, %d, %d, not %v, %d, %d", k.l, got, at, e, k.want, k.at, k.e)
		}
	}
}

// P1.3 and R3: the parts share nothing with the argument, nor with each other.
func TestStatementsShareNothing(t *testing.T) {
	l, _, _ := lex.Lex("a b; c; d;")
	was := slices.Clone(l)
	p, _, _ := lex.Statements(l)
	if !slices.Equal(l, was) {
		t.Fatalf("the argument is changed: %v", l)
	}
	for i := range p {
		p[i] = append(p[i], word("more", 0), word("still", 0))
		p[i][0] = word("other", 0)
	}
	if !slices.Equal(l, was) {
		t.Errorf("the argument is changed by its parts: %v", l)
	}
	for i, want := range []int{4, 3, 3} {
		if len(p[i]) != want || p[i][0].Text != "other" || p[i][want-1].Text != "still" || want == 4 && p[i][1] != word("b", 2) {
			t.Errorf("%d: %v", i, p[i])
		}
	}

	q, _, _ := lex.Statements(l)
	clear(l)
	if len(q) != 3 || !slices.Equal(q[0], []lex.Token{word("a", 0), word("b", 2)}) || !slices.Equal(q[1], []lex.Token{word("c", 5)}) || !slices.Equal(q[2], []lex.Token{word("d", 8)}) {
		t.Errorf("the parts are changed by the argument: %v", q)
	}
}

// P1.4: tokens that are joined are the same again, up to as many as there may be.
func TestJoinedAgain(t *testing.T) {
	for _, s := range []string{
		"",
		"ab 12;",
		"a  1 ; ; b;",
		";;a\n\n0 1048576 z_9;b",
		strings.Repeat("abcdefghij", 2) + " " + strings.Repeat("abcdefghij", 2),
		strings.Repeat("a 1;\n;b", 1000),
		strings.Repeat("\n;", 5000),
	} {
		l, _, e := lex.Lex(s)
		if e != api.OK {
			t.Fatalf("%s: %d", short(s), e)
		}
		joinedAgain(t, l)
	}
}

// R4 and R5: nothing is kept from call to call, and an answer is the caller's own.
func TestSameAgain(t *testing.T) {
	const s = "a 1; b;"
	first := lexed(s)
	kept := slices.Clone(first.tokens)
	lexed("01")
	clear(first.tokens)
	if again := lexed(s); !again.equal(answer{tokens: kept}) {
		t.Errorf("%v", again)
	}
}
