package relex_test

import (
	"bytes"
	"math"
	"slices"
	"strings"
	"sync"
	"testing"

	"undergrowth/api"
	"undergrowth/modes"
	"undergrowth/relex"
	"undergrowth/splice"
	"undergrowth/tokens"
)

// rule is one of mode 0 that stays there.
func rule(pattern string) api.LexRule { return api.LexRule{Pattern: pattern} }

// lexer is one of so many modes.
func lexer(modes int, rules ...api.LexRule) api.Lexer { return api.Lexer{Modes: modes, Rules: rules} }

// cut is a splice.
func cut(at, del int, ins string) api.Splice {
	return api.Splice{At: at, Del: del, Ins: []byte(ins)}
}

// words is a lexer of four modes, the last one without rules.
func words() api.Lexer {
	return lexer(4,
		api.LexRule{Kind: 0, Pattern: "if"},
		api.LexRule{Kind: 1, Pattern: "[a-z]+"},
		api.LexRule{Kind: 2, Pattern: "[0-9]+(\\.[0-9]+)?"},
		api.LexRule{Kind: api.Skip, Pattern: "[ \n]+"},
		api.LexRule{Next: 1, Kind: 3, Pattern: "\""},
		api.LexRule{Next: 2, Kind: api.Skip, Pattern: "/\\*"},
		api.LexRule{Mode: 1, Next: 1, Kind: 4, Pattern: "[^\"{\n]+"},
		api.LexRule{Mode: 1, Kind: 5, Pattern: "\""},
		api.LexRule{Mode: 1, Next: 3, Kind: 6, Pattern: "{"},
		api.LexRule{Mode: 2, Next: 2, Kind: api.Skip, Pattern: "[^*]|\\*"},
		api.LexRule{Mode: 2, Kind: api.Skip, Pattern: "\\*/"},
	)
}

// small is lexers of few letters, whose tokens turn on what stands ahead and behind.
func small() []api.Lexer {
	return []api.Lexer{
		lexer(1),
		lexer(1, rule("a"), api.LexRule{Pattern: "ab+", Kind: 1}, api.LexRule{Pattern: "b*c", Kind: api.Skip}),
		lexer(1, api.LexRule{Pattern: "a", Kind: 1}, api.LexRule{Pattern: "a(b|c)*ba", Kind: 2}),
		lexer(2, api.LexRule{Pattern: "(a|b)*abb", Next: 1, Kind: 1}, api.LexRule{Mode: 1, Pattern: "[ab]+", Kind: 2}, api.LexRule{Pattern: "[ab]", Kind: 3}, api.LexRule{Mode: 1, Next: 1, Pattern: "c", Kind: 4}),
		lexer(3, api.LexRule{Pattern: "a", Next: 2, Kind: 1}, api.LexRule{Mode: 2, Pattern: "a.c", Next: 1, Kind: 2}, api.LexRule{Mode: 1, Pattern: "(ab)+", Next: 2, Kind: 3}, api.LexRule{Mode: 1, Pattern: "a", Kind: api.Skip}, api.LexRule{Mode: 2, Pattern: "[^a]b?", Kind: 4}),
		lexer(2, api.LexRule{Pattern: "a", Next: 1, Kind: 1}, api.LexRule{Mode: 1, Pattern: "a", Kind: 2}, api.LexRule{Mode: 1, Next: 1, Pattern: "b", Kind: 3}),
	}
}

// all is the tokens of a text.
func all(t *testing.T, l api.Lexer, b []byte) []api.Token {
	t.Helper()
	got, e := tokens.All(l, b)
	if e != api.OK {
		t.Fatalf("All of %d bytes: %v", len(b), e)
	}
	return got
}

// untouched is how many of the first tokens looked at nothing from a place on.
func untouched(old []api.Token, at int) int {
	for i, k := range old {
		if k.At+k.Look > at {
			return i
		}
	}
	return len(old)
}

// readAnew tells by the document's words how many tokens are read anew: those of the new text, from where the first ones end that stay, up to one that begins as one of the old ones did.
func readAnew(old, now []api.Token, s api.Splice) int {
	stay, n := untouched(old, s.At), 0
	for _, k := range now[stay:] {
		for _, o := range old {
			if o.At >= s.At+s.Del && o.At-s.Del+len(s.Ins) == k.At && k.At >= s.At+len(s.Ins) && o.Mode == k.Mode {
				return n
			}
		}
		n++
	}
	return n
}

// edited looks whether Again tells what All of the new text does; it tells both.
func edited(t *testing.T, l api.Lexer, text string, s api.Splice) ([]api.Token, string, int) {
	t.Helper()
	old, b := all(t, l, []byte(text)), splice.Do([]byte(text), s)
	got, n, e := relex.Again(l, old, b, s)
	want := all(t, l, b)
	if e != api.OK || !slices.Equal(got, want) {
		t.Fatalf("Again of %q, %v: %v, %v; want %v", text, s, got, e, want)
	}
	if anew := readAnew(old, want, splice.Clamp(len(text), s)); n != anew {
		t.Fatalf("Again of %q, %v: %d read anew; want %d", text, s, n, anew)
	}
	return got, string(b), n
}

// expect looks whether Again reads so many tokens of the lexer of words.
func expect(t *testing.T, text string, s api.Splice, want int) {
	t.Helper()
	if _, _, n := edited(t, words(), text, s); n != want {
		t.Errorf("Again of %q, At %d, Del %d, %q: %d read anew; want %d", text, s.At, s.Del, s.Ins, n, want)
	}
}

// P901: what an edit turns is read anew, and no more.
func TestAgain(t *testing.T) {
	expect(t, "one two six", cut(5, 1, "x"), 1)
	expect(t, "one two six", cut(4, 1, "x"), 2)
	expect(t, "one two six", cut(3, 1, ""), 1)
	expect(t, "one two six", cut(4, 4, ""), 1)
	expect(t, "one two six", cut(5, 0, " "), 3)
	expect(t, "one two six", cut(0, 0, "x"), 1)
	expect(t, "one two six", cut(0, 3, "if"), 1)
	expect(t, "one two six", cut(11, 0, "x"), 1)
	expect(t, "one two six", cut(11, 0, " x"), 3)
	expect(t, "one two six", cut(10, 1, ""), 1)
	expect(t, "i two six", cut(1, 0, "f"), 1)
	expect(t, "12 34", cut(2, 1, "."), 1)
	expect(t, "12.34", cut(2, 1, " "), 3)
	expect(t, "one", cut(0, 3, ""), 0)
	expect(t, "one two", cut(0, 4, ""), 0)
	expect(t, "one two", cut(3, 4, ""), 1)
	expect(t, "", cut(0, 0, "one two"), 3)
}

// P901: nothing of nothing.
func TestNothing(t *testing.T) {
	for _, l := range append(small(), words()) {
		for _, old := range [][]api.Token{nil, {}} {
			for _, b := range [][]byte{nil, {}} {
				for _, s := range []api.Splice{{}, cut(3, 4, ""), cut(-3, -4, ""), cut(math.MinInt, math.MaxInt, ""), {Ins: []byte{}}} {
					if got, n, e := relex.Again(l, old, b, s); len(got) != 0 || n != 0 || e != api.OK {
						t.Errorf("Again of nothing: %v, %d, %v", got, n, e)
					}
				}
			}
		}
	}
}

// P901: At and Look of what stays are At at most: what looked just up to there stays, what looked at one more byte does not.
func TestWhatStays(t *testing.T) {
	expect(t, "a b c", cut(2, 0, ""), 1)   // `a` looked at bytes 0 and 1
	expect(t, "a b c", cut(1, 0, ""), 1)   // `a` goes, it looked at byte 1
	expect(t, "a b c", cut(3, 0, ""), 1)   // `a` and the space stay
	expect(t, "ab b c", cut(1, 0, ""), 1)  // in the midst of a word
	expect(t, "???", cut(1, 0, "!"), 1)    // a wrong byte looks at itself alone
	expect(t, "1.x", cut(3, 0, "y"), 1)    // `1` looked at `x`, and stays
	expect(t, "1.x", cut(2, 0, ""), 2)     // the first ones: `.` looked at itself alone, but stands behind one that goes
	expect(t, "1.x", cut(2, 1, "5"), 1)    // what looked at the byte that was turned goes
	expect(t, "1.x", cut(2, 1, "y"), 3)    // even where it comes to be the same
	expect(t, "1.", cut(2, 0, "5"), 1)     // the end counts as a byte that was looked at
	expect(t, "?\"", cut(2, 0, "\""), 2)   // so a rule's last token never stays at the end
	expect(t, "a", cut(1, 0, ""), 1)       // not even where nothing is turned
	expect(t, "?", cut(1, 0, ""), 0)       // a wrong byte does
	expect(t, "1 1.1 1", cut(3, 0, ""), 1) // the space looked at byte 2, and stays
	expect(t, "1 1.1 1", cut(2, 0, ""), 1) // the space goes; it is read up to where it was
}

// P901: it goes on in the mode of the next old token, not in that of the last one that stays.
func TestModeOfTheNext(t *testing.T) {
	expect(t, "\"ab", cut(2, 0, "c"), 1)
	expect(t, "\"ab\" ab", cut(2, 0, "\n"), 3)
	expect(t, "\"\"ab", cut(3, 0, " "), 3)
	expect(t, "/* * a", cut(4, 0, "*/"), 4)
	expect(t, "\"{ab", cut(3, 0, "c"), 1)
}

// P901: where there is no next one, it goes on in the mode of the last one that stays; where none stays, in mode 0.
func TestModeAtTheEnd(t *testing.T) {
	for _, c := range []struct {
		text, ins string
		kinds     []int
		n         int
	}{
		{"?", "if\"a", []int{api.Wrong, 0, 3, 4}, 3},
		{"\"\n", "if\"a", []int{3, api.Wrong, 4, 5, 1}, 3},
		{"\"\n\n", "\n", []int{3, api.Wrong, api.Wrong, api.Wrong}, 1},
		{"\"{??", "if\"", []int{3, 6, api.Wrong, api.Wrong, api.Wrong, api.Wrong, api.Wrong}, 3},
		{"", "if\"a", []int{0, 3, 4}, 3},
	} {
		got, _, n := edited(t, words(), c.text, cut(len(c.text), 0, c.ins))
		if !slices.Equal(tokens.Kinds(got), c.kinds) || n != c.n {
			t.Errorf("%q behind %q: %v, %d read anew; want %v, %d", c.ins, c.text, tokens.Kinds(got), n, c.kinds, c.n)
		}
	}
	expect(t, "\"\n", cut(2, 0, ""), 0)
	expect(t, "\"\na", cut(2, 1, "\""), 1)
	expect(t, "\"\na", cut(0, 3, "a"), 1)
}

// P901: it ends where an old token began, not ahead of Ins's end, not in another mode, and not within an old one.
func TestWhereItEnds(t *testing.T) {
	expect(t, "a b c", cut(0, 5, "a b c"), 5)      // what is gone is no old token, even where Ins is the same
	expect(t, "a b c", cut(0, 4, "a b "), 4)       // up to where Ins ends
	expect(t, "a b c", cut(2, 1, "b"), 2)          // ..
	expect(t, "????", cut(0, 2, "??"), 2)          // ..
	expect(t, "????", cut(1, 0, ""), 0)            // at Ins's end itself
	expect(t, "????", cut(1, 2, ""), 0)            // at At and Del itself
	expect(t, "a b", cut(0, 0, "xx"), 1)           // `xxa` goes beyond Ins's end
	expect(t, "abc d", cut(0, 1, " "), 2)          // `bc` begins where no old token did
	expect(t, "a\"b\"c", cut(0, 0, "\""), 6)       // all is in another mode, to the end
	expect(t, "\"a\"b\"c", cut(0, 1, ""), 5)       // ..
	expect(t, "/*?*/ a", cut(0, 0, "\""), 2)       // in mode 1 to the end
	expect(t, "/*??*/ a", cut(0, 1, ""), 5)        // up to the space, which was in mode 0, too
	expect(t, "a /*??*/ b", cut(5, 0, "*/ "), 6)   // `?` is in mode 0 now, up to the space it stays so
	expect(t, "\"a\nb\" c", cut(2, 0, "\" \""), 4) // back in mode 1
	expect(t, "a b c d", cut(1, 5, ""), 1)
	expect(t, "a b c d", cut(2, 5, "x"), 2)
}

// P901: what stays behind is moved, on or back; all else of it is as it was.
func TestMoved(t *testing.T) {
	tail := []api.Token{
		{Kind: api.Skip, At: 1, Len: 1, Look: 2}, {Kind: 3, At: 2, Len: 1, Look: 2}, {Kind: 4, At: 3, Len: 1, Look: 2, Mode: 1},
		{Kind: 5, At: 4, Len: 1, Look: 2, Mode: 1}, {Kind: api.Wrong, At: 5, Len: 1, Look: 1},
	}
	for _, c := range []struct {
		s                api.Splice
		fresh, gone, far int
	}{
		{cut(0, 1, "xyz"), 1, 0, 2}, {cut(0, 1, "x"), 1, 0, 0}, {cut(0, 1, ""), 0, 0, -1}, {cut(0, 2, ""), 0, 1, -2}, {cut(0, 2, "????"), 4, 1, 2}, {cut(0, 5, ""), 0, 4, -5},
	} {
		got, _, n := edited(t, words(), "a \"b\"?", c.s)
		want := slices.Clone(tail[c.gone:])
		for i := range want {
			want[i].At += c.far
		}
		if n != c.fresh || !slices.Equal(got[n:], want) {
			t.Errorf("At %d, Del %d, %q: %v, %d; want %v behind %d", c.s.At, c.s.Del, c.s.Ins, got, n, want, c.fresh)
		}
	}
}

// P901: a splice is cut to the old text.
func TestClamped(t *testing.T) {
	for _, c := range []struct {
		s    api.Splice
		like api.Splice
	}{
		{cut(-1, 0, "x"), cut(0, 0, "x")},
		{cut(-1, 2, "x"), cut(0, 2, "x")},
		{cut(math.MinInt, -1, ""), cut(0, 0, "")},
		{cut(6, 1, "x"), cut(5, 0, "x")},
		{cut(math.MaxInt, math.MaxInt, " x"), cut(5, 0, " x")},
		{cut(2, math.MinInt, "x"), cut(2, 0, "x")},
		{cut(2, math.MaxInt, "x"), cut(2, 3, "x")},
		{cut(4, 2, ""), cut(4, 1, "")},
		{cut(math.MinInt, math.MaxInt, ""), cut(0, 5, "")},
	} {
		got, b, n := edited(t, words(), "a b c", c.s)
		want, like, m := edited(t, words(), "a b c", c.like)
		if b != like || n != m || !slices.Equal(got, want) {
			t.Errorf("At %d, Del %d: %v, %d; want %v, %d", c.s.At, c.s.Del, got, n, want, m)
		}
	}
}

// refuses looks whether Again tells that error, and nothing beside.
func refuses(t *testing.T, what string, l api.Lexer, old []api.Token, b []byte, s api.Splice, want api.Errno) {
	t.Helper()
	if got, n, e := relex.Again(l, old, b, s); e != want || len(got) != 0 || n != 0 {
		t.Errorf("%s: Again to %d bytes: %d tokens, %d, %v; want %v", what, len(b), len(got), n, e, want)
	}
}

// P901: ErrArg: a text of another length than the splice makes, be it one byte more or fewer.
func TestOtherLength(t *testing.T) {
	for _, c := range []struct {
		text string
		s    api.Splice
	}{
		{"", cut(0, 0, "")}, {"", cut(2, 3, "ab")}, {"a b c", cut(2, 1, "")}, {"a b c", cut(2, 1, "xyz")}, {"a b c", cut(1, 0, "")},
		{"a b c", cut(0, 5, "")}, {"a b c", cut(4, 9, "x")}, {"a b c", cut(-4, -9, "x")}, {"????", cut(2, 2, "?")}, {"\"\n\n", cut(3, 0, "\"")},
	} {
		old, b := all(t, words(), []byte(c.text)), splice.Do([]byte(c.text), c.s)
		if _, _, e := relex.Again(words(), old, b, c.s); e != api.OK {
			t.Errorf("%q, %v: %v", c.text, c.s, e)
		}
		for n := range len(b) + 4 {
			if n != len(b) {
				refuses(t, "another length", words(), old, bytes.Repeat([]byte("a"), n), c.s, api.ErrArg)
			}
		}
		refuses(t, "another length", words(), old, make([]byte, api.MaxText), c.s, api.ErrArg)
	}
}

// P901: modes.Check's error comes first, then a text that is too long, then one of another length.
func TestOrderOfErrors(t *testing.T) {
	many := rule("(a|b)*a" + strings.Repeat("(a|b)", 11))
	old := all(t, words(), []byte("a b c"))
	told := map[api.Errno]int{}
	for _, l := range []api.Lexer{
		{}, lexer(-1), lexer(9), lexer(1, slices.Repeat([]api.LexRule{rule("a")}, 41)...), lexer(1, api.LexRule{Pattern: "a", Mode: 1}), lexer(1, api.LexRule{Pattern: "a", Kind: 40}),
		lexer(1, rule("(")), lexer(1, rule(strings.Repeat("a", 151))), lexer(1, rule(strings.Repeat("(", 21))), lexer(1, rule("a*")), lexer(1, many),
	} {
		_, want := modes.Check(l)
		told[want]++
		refuses(t, "a lexer at fault", l, old, []byte("a b c"), cut(1, 0, ""), want)
		refuses(t, "a lexer at fault", l, old, []byte("a b"), cut(1, 0, ""), want)
		refuses(t, "a lexer at fault", l, nil, nil, cut(0, 0, ""), want)
		refuses(t, "a lexer at fault", l, nil, make([]byte, api.MaxText+1), cut(0, 0, ""), want)
	}
	if len(told) != 5 || told[api.OK] != 0 {
		t.Errorf("the lexers have the errors %v", told)
	}
	refuses(t, "too long and another length", words(), old, make([]byte, api.MaxText+1), cut(1, 0, ""), api.ErrLong)
	refuses(t, "too long and another length", words(), nil, make([]byte, 1<<20), cut(1, 0, ""), api.ErrLong)
}

// P901: a text may come to be of MaxText bytes, and no longer.
func TestHowLong(t *testing.T) {
	for _, pair := range []string{"??", "a ", "\"\"", "1."} {
		text := bytes.Repeat([]byte(pair), api.MaxText/2)
		whole, end := all(t, words(), text), len(text)-2
		short := all(t, words(), text[:end])
		got, n, e := relex.Again(words(), short, text, cut(end, 0, pair))
		if e != api.OK || n > 4 || !slices.Equal(got, whole) {
			t.Errorf("%q comes: %d tokens, %d, %v", pair, len(got), n, e)
		}
		got, n, e = relex.Again(words(), whole, text, cut(end, 2, pair))
		if e != api.OK || n > 4 || !slices.Equal(got, whole) {
			t.Errorf("%q stays: %d tokens, %d, %v", pair, len(got), n, e)
		}
		got, n, e = relex.Again(words(), whole, nil, cut(0, math.MaxInt, ""))
		if e != api.OK || n != 0 || len(got) != 0 {
			t.Errorf("all goes: %d tokens, %d, %v", len(got), n, e)
		}
		for _, s := range []api.Splice{cut(0, 0, "?"), cut(end, 0, pair), cut(end, 1, pair), cut(math.MaxInt, 0, " ")} {
			refuses(t, "too long", words(), whole, splice.Do(text, s), s, api.ErrLong)
		}
	}
}

// texts is all of these letters, of up to so many.
func texts(letters string, most int) []string {
	l := []string{""}
	for from := 0; most > 0; most-- {
		to := len(l)
		for _, s := range l[from:to] {
			for i := range len(letters) {
				l = append(l, s+letters[i:i+1])
			}
		}
		from = to
	}
	return l
}

// P901: all splices of all short texts, by the document's words.
func TestAllSplices(t *testing.T) {
	known := map[string][]api.Token{}
	for _, l := range small() {
		clear(known)
		for _, s := range texts("abc", 6) {
			known[s] = all(t, l, []byte(s))
		}
		for _, text := range texts("abc", 4) {
			for at := range len(text) + 1 {
				for del := range len(text) - at + 1 {
					for _, ins := range []string{"", "a", "b", "c", "ab", "ba", "ca"} {
						s, now := cut(at, del, ins), text[:at]+ins+text[at+del:]
						got, n, e := relex.Again(l, known[text], []byte(now), s)
						if want := readAnew(known[text], known[now], s); e != api.OK || n != want || !slices.Equal(got, known[now]) {
							t.Fatalf("Again of %q, At %d, Del %d, %q: %v, %d, %v; want %v, %d", text, at, del, ins, got, n, e, known[now], want)
						}
					}
				}
			}
		}
	}
}

// chance is numbers one behind the other.
type chance uint32

// below is the next one, from 0 to most - 1.
func (c *chance) below(most int) int {
	*c = *c*1664525 + 1013904223
	return int(*c>>8) % most
}

// row is up to so many of these bytes.
func (c *chance) row(letters string, most int) []byte {
	var b []byte
	for range c.below(most + 1) {
		b = append(b, letters[c.below(len(letters))])
	}
	return b
}

// P901: edit behind edit, each from the tokens that the last one told.
func TestEditBehindEdit(t *testing.T) {
	next := chance(7)
	anew, whole := 0, 0
	for range 60 {
		var text []byte
		var old []api.Token
		for range 50 {
			s := api.Splice{At: next.below(len(text)+5) - 2, Del: next.below(8) - 2, Ins: next.row("if1.\"{a \n/*?", 9)}
			b := splice.Do(text, s)
			got, n, e := relex.Again(words(), old, b, s)
			want := all(t, words(), b)
			if e != api.OK || !slices.Equal(got, want) || n != readAnew(old, want, splice.Clamp(len(text), s)) {
				t.Fatalf("Again of %q, %v: %v, %d, %v; want %v", text, s, got, n, e, want)
			}
			text, old = b, got
			anew, whole = anew+n, whole+len(got)
		}
	}
	if anew*2 > whole {
		t.Errorf("%d of %d tokens read anew", anew, whole)
	}
}

// P901: however long a text is, a small edit reads few tokens.
func TestFewOfMany(t *testing.T) {
	text := []byte(strings.Repeat("if a1 /* ? */ 1.5 \"b\" ", 2000))
	old := all(t, words(), text)
	next := chance(3)
	for range 40 {
		s := api.Splice{At: next.below(len(text)), Ins: []byte("?")}
		b := splice.Do(text, s)
		got, n, e := relex.Again(words(), old, b, s)
		if e != api.OK || n > 8 || !slices.Equal(got, all(t, words(), b)) {
			t.Fatalf("a byte at %d: %d of %d read anew, %v", s.At, n, len(got), e)
		}
	}
}

// P902: a call ends and does not panic, whatever tokens it is given.
func TestTokensOfNoText(t *testing.T) {
	numbers := []int{math.MinInt, math.MinInt + 1, -9, -2, -1, 0, 1, 2, 3, 5, 9, 1 << 40, math.MaxInt - 1, math.MaxInt}
	next := chance(5)
	number := func() int { return numbers[next.below(len(numbers))] }
	for range 4000 {
		var old []api.Token
		for range next.below(5) {
			old = append(old, api.Token{Kind: number(), At: number(), Len: number(), Look: number(), Mode: number()})
		}
		s := api.Splice{At: number(), Del: number(), Ins: next.row("if \"?", 6)}
		b := next.row("if \"?/*", 9)
		got, n, e := relex.Again(words(), old, b, s)
		if n < 0 || n > len(got) || e != api.OK && (e != api.ErrArg || n != 0 || len(got) != 0) {
			t.Fatalf("Again of %v to %q, %v: %v, %d, %v", old, b, s, got, n, e)
		}
	}
}

// P902: tokens whose numbers are not those of a text, as long as the text is to be.
func TestTokensOfOtherText(t *testing.T) {
	numbers := []int{math.MinInt, -4, -1, 0, 1, 2, 3, 4, 7, math.MaxInt}
	next := chance(9)
	number := func() int { return numbers[next.below(len(numbers))] }
	for range 4000 {
		var old []api.Token
		for range next.below(5) {
			old = append(old, api.Token{Kind: number(), At: number(), Len: number(), Look: number(), Mode: number()})
		}
		old = append(old, api.Token{At: 4, Len: 2, Look: number(), Mode: number()})
		s := splice.Clamp(6, api.Splice{At: number(), Del: number(), Ins: next.row("if \"?", 6)})
		b := splice.Do([]byte("if a b"), s)
		if got, n, e := relex.Again(words(), old, b, s); e != api.OK || n < 0 || n > len(b) || len(got) > len(old)+len(b) {
			t.Fatalf("Again of %v to %q, %v: %v, %d, %v", old, b, s, got, n, e)
		}
	}
}

// P902: what is handed in stays as it is, its spare room too, and no answer hangs on what becomes of it.
func TestHandedInStays(t *testing.T) {
	const text, now = "if \"a b\" if 12", "if \"a\" if 12"
	for _, at := range []int{0, 5, 12} {
		l := words()
		n := len(l.Rules)
		l.Rules = append(l.Rules, rule("spare"), rule("room"))[:n]
		rules := slices.Clone(l.Rules[:n+2])
		old := all(t, l, []byte(text))
		m := len(old)
		old = append(old, api.Token{Kind: 9, At: 9}, api.Token{Kind: 8, At: 8})[:m]
		oldWas := slices.Clone(old[:m+2])
		ins := []byte("xy spare")[:2]
		s := api.Splice{At: at, Del: 2, Ins: ins}
		b := append(splice.Do([]byte(text), s), "spare"...)[:len(text)]
		bWas := slices.Clone(b[:len(text)+5])

		got, _, e := relex.Again(l, old, b, s)
		if e != api.OK || !slices.Equal(l.Rules[:n+2], rules) || !slices.Equal(old[:m+2], oldWas) || string(ins[:8]) != "xy spare" || !bytes.Equal(b[:len(text)+5], bWas) {
			t.Errorf("At %d: Again turns what is handed in: %v", at, e)
		}
		was := slices.Clone(got)
		clear(old[:m+2])
		clear(b)
		clear(ins)
		clear(l.Rules)
		if !slices.Equal(got, was) {
			t.Errorf("At %d: Again keeps what is handed in", at)
		}
	}
}

// P902: what is answered is new memory, also where all stays: what becomes of it turns nothing that was handed in, nor a later answer.
func TestAnswersAreNew(t *testing.T) {
	const text = "\"a b\" if ??"
	for _, s := range []api.Splice{cut(0, 0, ""), cut(11, 0, ""), cut(11, 0, "?"), cut(0, 1, "?"), cut(3, 1, ""), cut(0, 11, "")} {
		old := all(t, words(), []byte(text))
		b, was := splice.Do([]byte(text), s), slices.Clone(old)
		first, _, _ := relex.Again(words(), old, b, s)
		want := slices.Clone(first)
		for i := range first[:cap(first)] {
			first[:cap(first)][i] = api.Token{Kind: 7, At: 7}
		}
		if !slices.Equal(old, was) {
			t.Errorf("%v: Again answers memory of what is handed in", s)
		}
		if again, _, _ := relex.Again(words(), old, b, s); !slices.Equal(again, want) {
			t.Errorf("%v: Again answers what it answered before", s)
		}
	}
}

// P902: what is told hangs on the arguments alone, not on what was asked ahead nor on who asks beside.
func TestManyAtOnce(t *testing.T) {
	list := texts("ab\"{ /*?", 2)
	s := cut(1, 1, "\"a")
	old, want := make([][]api.Token, len(list)), make([][]api.Token, len(list))
	for i, text := range list {
		old[i], want[i] = all(t, words(), []byte(text)), all(t, words(), splice.Do([]byte(text), s))
	}
	var group sync.WaitGroup
	for k := range 4 {
		group.Go(func() {
			for i := range list {
				i = (i + 17*k) % len(list)
				relex.Again(small()[1], old[i], []byte("abcab")[:k], s)
				got, n, e := relex.Again(words(), old[i], splice.Do([]byte(list[i]), s), s)
				if e != api.OK || !slices.Equal(got, want[i]) || n != readAnew(old[i], want[i], splice.Clamp(len(list[i]), s)) {
					t.Errorf("Again of %q: %v, %d, %v; want %v", list[i], got, n, e, want[i])
				}
			}
		})
	}
	group.Wait()
}
