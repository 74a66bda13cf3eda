package tokens_test

import (
	"bytes"
	"math"
	"regexp"
	"slices"
	"strings"
	"sync"
	"testing"

	"undergrowth/api"
	"undergrowth/modes"
	"undergrowth/tokens"
)

// rule is one of mode 0 that stays there.
func rule(pattern string) api.LexRule { return api.LexRule{Pattern: pattern} }

// some is n rules of one.
func some(n int, r api.LexRule) []api.LexRule { return slices.Repeat([]api.LexRule{r}, n) }

// lexer is one of so many modes.
func lexer(modes int, rules ...api.LexRule) api.Lexer { return api.Lexer{Modes: modes, Rules: rules} }

// tok is a token.
func tok(kind, at, long, look, mode int) api.Token {
	return api.Token{Kind: kind, At: at, Len: long, Look: look, Mode: mode}
}

// words is a lexer of four modes, the last one without rules; its rules stand in no order of modes.
func words() api.Lexer {
	return lexer(4,
		api.LexRule{Mode: 1, Next: 1, Kind: 4, Pattern: "[^\"{\n]+"},
		api.LexRule{Kind: 0, Pattern: "if"},
		api.LexRule{Mode: 2, Next: 2, Kind: api.Skip, Pattern: "[^*]|\\*"},
		api.LexRule{Kind: 1, Pattern: "[a-z]+"},
		api.LexRule{Mode: 1, Kind: 5, Pattern: "\""},
		api.LexRule{Kind: 2, Pattern: "[0-9]+(\\.[0-9]+)?"},
		api.LexRule{Kind: api.Skip, Pattern: "[ \n]+"},
		api.LexRule{Mode: 2, Kind: api.Skip, Pattern: "\\*/"},
		api.LexRule{Next: 1, Kind: 3, Pattern: "\""},
		api.LexRule{Kind: 39, Pattern: "#[a-z]*#"},
		api.LexRule{Next: 2, Kind: api.Skip, Pattern: "/\\*"},
		api.LexRule{Mode: 1, Next: 3, Kind: 6, Pattern: "{"},
	)
}

// all is All of l, which is a lexer, and of a text that is not too long.
func all(t *testing.T, l api.Lexer, b []byte) []api.Token {
	t.Helper()
	got, e := tokens.All(l, b)
	if e != api.OK {
		t.Fatalf("All of %d bytes: %v", len(b), e)
	}
	return got
}

// refuses looks whether All tells that error, and nothing beside.
func refuses(t *testing.T, what string, l api.Lexer, b []byte, want api.Errno) {
	t.Helper()
	if got, e := tokens.All(l, b); e != want || len(got) != 0 {
		t.Errorf("%s: All of %d bytes: %d tokens, %v; want %v", what, len(b), len(got), e, want)
	}
}

// P801: texts with tokens of all kinds.
func TestAll(t *testing.T) {
	const skip, wrong = api.Skip, api.Wrong
	for _, c := range []struct {
		text string
		want []api.Token
	}{
		{"a", []api.Token{tok(1, 0, 1, 2, 0)}},
		{"if", []api.Token{tok(0, 0, 2, 3, 0)}},
		{"ifs", []api.Token{tok(1, 0, 3, 4, 0)}},
		{"if if", []api.Token{tok(0, 0, 2, 3, 0), tok(skip, 2, 1, 2, 0), tok(0, 3, 2, 3, 0)}},
		{" \n x", []api.Token{tok(skip, 0, 3, 4, 0), tok(1, 3, 1, 2, 0)}},
		{"x \n ", []api.Token{tok(1, 0, 1, 2, 0), tok(skip, 1, 3, 4, 0)}},
		{"12x12.5", []api.Token{tok(2, 0, 2, 3, 0), tok(1, 2, 1, 2, 0), tok(2, 3, 4, 5, 0)}},
		{"1.2.3", []api.Token{tok(2, 0, 3, 4, 0), tok(wrong, 3, 1, 1, 0), tok(2, 4, 1, 2, 0)}},
		{"1..2", []api.Token{tok(2, 0, 1, 3, 0), tok(wrong, 1, 1, 1, 0), tok(wrong, 2, 1, 1, 0), tok(2, 3, 1, 2, 0)}},
		{"1.", []api.Token{tok(2, 0, 1, 3, 0), tok(wrong, 1, 1, 1, 0)}},
		{"#a#b#", []api.Token{tok(39, 0, 3, 4, 0), tok(1, 3, 1, 2, 0), tok(wrong, 4, 1, 2, 0)}},
		{"#ab", []api.Token{tok(wrong, 0, 1, 4, 0), tok(1, 1, 2, 3, 0)}},
		{"\xff\x00", []api.Token{tok(wrong, 0, 1, 1, 0), tok(wrong, 1, 1, 1, 0)}},
		{"\"if 1\"if", []api.Token{tok(3, 0, 1, 2, 0), tok(4, 1, 4, 5, 1), tok(5, 5, 1, 2, 1), tok(0, 6, 2, 3, 0)}},
		{"\"\"", []api.Token{tok(3, 0, 1, 2, 0), tok(5, 1, 1, 2, 1)}},
		{"\"a\n\nb\"", []api.Token{tok(3, 0, 1, 2, 0), tok(4, 1, 1, 2, 1), tok(wrong, 2, 1, 1, 1), tok(wrong, 3, 1, 1, 1), tok(4, 4, 1, 2, 1), tok(5, 5, 1, 2, 1)}},
		{"\"{if", []api.Token{tok(3, 0, 1, 2, 0), tok(6, 1, 1, 2, 1), tok(wrong, 2, 1, 1, 3), tok(wrong, 3, 1, 1, 3)}},
		{"/*a*/a", []api.Token{tok(skip, 0, 2, 3, 0), tok(skip, 2, 1, 2, 2), tok(skip, 3, 2, 3, 2), tok(1, 5, 1, 2, 0)}},
		{"/***/", []api.Token{tok(skip, 0, 2, 3, 0), tok(skip, 2, 1, 2, 2), tok(skip, 3, 2, 3, 2)}},
		{"/**", []api.Token{tok(skip, 0, 2, 3, 0), tok(skip, 2, 1, 2, 2)}},
		{"*/", []api.Token{tok(wrong, 0, 1, 1, 0), tok(wrong, 1, 1, 2, 0)}},
	} {
		if got := all(t, words(), []byte(c.text)); !slices.Equal(got, c.want) {
			t.Errorf("All of %q: %v; want %v", c.text, got, c.want)
		}
	}
}

// P801: no text has no tokens, whatever the rules.
func TestNoText(t *testing.T) {
	for _, l := range []api.Lexer{words(), lexer(1), lexer(8), lexer(2, rule("a"), rule("b"))} {
		for _, b := range [][]byte{nil, {}, []byte("if")[:0]} {
			if got := all(t, l, b); len(got) != 0 {
				t.Errorf("All of no text: %v", got)
			}
		}
	}
}

// faults is lexers that can't be.
func faults() []api.Lexer {
	many := rule("(a|b)*a" + strings.Repeat("(a|b)", 11))
	other := many
	other.Mode = 1
	return []api.Lexer{
		{}, lexer(-1), lexer(9), lexer(math.MinInt), lexer(math.MaxInt), lexer(1, some(41, rule("a"))...), lexer(0, rule("(")),
		lexer(1, api.LexRule{Pattern: "a", Mode: 1}), lexer(1, api.LexRule{Pattern: "a", Next: -1}), lexer(1, api.LexRule{Pattern: "a", Kind: -2}), lexer(1, api.LexRule{Pattern: "a", Kind: 40}),
		lexer(1, rule(strings.Repeat("a", 201))), lexer(1, rule(strings.Repeat("a", 151))), lexer(1, rule("*")), lexer(1, rule("a"), rule("[b-a]")), lexer(1, rule(strings.Repeat("(", 21))),
		lexer(1, rule("")), lexer(2, rule("b"), api.LexRule{Pattern: "a*", Mode: 1}), lexer(1, rule(""), rule("(")), lexer(1, rule("("), rule("")),
		lexer(1, many), lexer(2, rule("a"), other), lexer(2, other, rule("")),
	}
}

// P801: modes.Check's error, whatever the text, and ahead of its length.
func TestLexerAtFault(t *testing.T) {
	told := map[api.Errno]int{}
	for _, l := range faults() {
		_, want := modes.Check(l)
		told[want]++
		for _, b := range [][]byte{nil, {}, []byte("a"), []byte("if \"a b\""), bytes.Repeat([]byte("a"), api.MaxText), bytes.Repeat([]byte("a"), api.MaxText+1)} {
			refuses(t, "a lexer at fault", l, b, want)
		}
	}
	for _, e := range []api.Errno{api.ErrSyntax, api.ErrLong, api.ErrDeep, api.ErrEmpty, api.ErrName} {
		if told[e] == 0 {
			t.Errorf("no lexer has the error %v", e)
		}
	}
	if told[api.OK] != 0 {
		t.Errorf("%d lexers have no fault", told[api.OK])
	}
}

// P801: a text of MaxText bytes is read, a longer one is not, whatever stands in it.
func TestHowLong(t *testing.T) {
	for _, c := range []struct {
		what string
		l    api.Lexer
		text string
		n    int // tokens of MaxText bytes
	}{
		{"one token", words(), "a", 1},
		{"one that is skipped", words(), " ", 1},
		{"wrong bytes", words(), "?", api.MaxText},
		{"no rules", lexer(1), "a", api.MaxText},
		{"bytes", lexer(1, rule("a")), "a", api.MaxText},
		{"pairs", lexer(1, rule("ab")), "ab", api.MaxText / 2},
		{"two modes", lexer(2, api.LexRule{Pattern: "a", Next: 1}, api.LexRule{Mode: 1, Pattern: "b"}), "ab", api.MaxText},
	} {
		long := bytes.Repeat([]byte(c.text), api.MaxText+1)
		if got := all(t, c.l, long[:api.MaxText]); len(got) != c.n {
			t.Errorf("%s: %d tokens; want %d", c.what, len(got), c.n)
		}
		all(t, c.l, long[:api.MaxText-1])
		refuses(t, c.what, c.l, long[:api.MaxText+1], api.ErrLong)
	}
	for _, n := range []int{api.MaxText + 1, api.MaxText + 2, 2 * api.MaxText, 1 << 24} {
		refuses(t, "too long", words(), make([]byte, n), api.ErrLong)
	}
}

// P801: it begins in mode 0 and goes on in the mode that a rule tells, through as many modes as there may be.
func TestThroughModes(t *testing.T) {
	for n := 1; n <= api.MaxModes; n++ {
		for step := range n {
			l := lexer(n)
			for m := n - 1; m >= 0; m-- {
				l.Rules = append(l.Rules, api.LexRule{Mode: m, Next: (m + step) % n, Kind: 10 + m, Pattern: "a"})
			}
			var want []api.Token
			for i, m := 0, 0; i < 20; i++ {
				want = append(want, tok(10+m, i, 1, 2, m))
				m = (m + step) % n
			}
			if got := all(t, l, bytes.Repeat([]byte("a"), 20)); !slices.Equal(got, want) {
				t.Errorf("%d modes, each %d from the last one: %v", n, step, got)
			}
		}
	}
}

// P801: a byte that no rule takes is a token and turns no mode, be it any byte; one of a mode without rules, too.
func TestWrong(t *testing.T) {
	l := lexer(3, api.LexRule{Pattern: "a", Next: 1}, api.LexRule{Mode: 1, Pattern: "a", Next: 2, Kind: 1})
	for c := range 256 {
		if c == 'a' {
			continue
		}
		x := byte(c)
		want := []api.Token{tok(api.Wrong, 0, 1, 1, 0), tok(0, 1, 1, 2, 0), tok(api.Wrong, 2, 1, 1, 1), tok(api.Wrong, 3, 1, 1, 1), tok(1, 4, 1, 2, 1), tok(api.Wrong, 5, 1, 1, 2), tok(api.Wrong, 6, 1, 1, 2)}
		if got := all(t, l, []byte{x, 'a', x, x, 'a', 'a', x}); !slices.Equal(got, want) {
			t.Errorf("byte %d: %v; want %v", c, got, want)
		}
	}
}

// texts is all of these letters, of up to so many.
func texts(letters string, most int) []string {
	l := []string{""}
	for from := 0; most > 0; most-- {
		to := len(l)
		for _, s := range l[from:to] {
			for i := range len(letters) {
				l = append(l, s+letters[i:i+1])
			}
		}
		from = to
	}
	return l
}

// small is lexers of few letters, whose tokens turn on what stands ahead and behind.
func small() []api.Lexer {
	return []api.Lexer{
		lexer(1),
		lexer(1, rule("a"), api.LexRule{Pattern: "ab+", Kind: 1}, api.LexRule{Pattern: "b*c", Kind: api.Skip}),
		lexer(1, api.LexRule{Pattern: "a", Kind: 1}, api.LexRule{Pattern: "a(b|c)*ba", Kind: 2}),
		lexer(2, api.LexRule{Pattern: "(a|b)*abb", Next: 1, Kind: 1}, api.LexRule{Mode: 1, Pattern: "[ab]+", Kind: 2}, api.LexRule{Pattern: "[ab]", Kind: 3}, api.LexRule{Mode: 1, Next: 1, Pattern: "c", Kind: 4}),
		lexer(3, api.LexRule{Pattern: "a", Next: 2, Kind: 1}, api.LexRule{Mode: 2, Pattern: "a.c", Next: 1, Kind: 2}, api.LexRule{Mode: 1, Pattern: "(ab)+", Next: 2, Kind: 3}, api.LexRule{Mode: 1, Pattern: "a", Kind: api.Skip}, api.LexRule{Mode: 2, Pattern: "[^a]b?", Kind: 4}),
	}
}

// layerBelow is the tokens by modes.One.
func layerBelow(t *testing.T, x *modes.Lexer, b []byte) []api.Token {
	t.Helper()
	var l []api.Token
	at, mode := 0, 0
	for at < len(b) {
		got, next := x.One(b, at, mode)
		l, at, mode = append(l, got), at+got.Len, next
		if got.Len < 1 {
			t.Fatalf("One of %q at %d: %v", b, at, got)
		}
	}
	return l
}

// longest is the kind, length and mode behind of the token at a place, by package regexp.
func longest(l api.Lexer, x []*regexp.Regexp, rest []byte, mode int) (int, int, int) {
	kind, long, next := api.Wrong, 0, mode
	for i, r := range l.Rules {
		if n := len(x[i].Find(rest)); r.Mode == mode && n > long {
			kind, long, next = r.Kind, n, r.Next
		}
	}
	return kind, max(long, 1), next
}

// sameAsRegexp looks whether these are the tokens by package regexp, which tells nothing of Look.
func sameAsRegexp(t *testing.T, l api.Lexer, x []*regexp.Regexp, b []byte, got []api.Token) {
	t.Helper()
	at, mode, i := 0, 0, 0
	for ; at < len(b) && i < len(got); i++ {
		kind, long, next := longest(l, x, b[at:], mode)
		want := tok(kind, at, long, got[i].Look, mode)
		if got[i] != want || want.Look < want.Len || want.Look > len(b)-at+1 {
			t.Fatalf("All of %q: %v; want %v in place %d", b, got, want, i)
		}
		at, mode = at+long, next
	}
	if at != len(b) || i != len(got) {
		t.Fatalf("All of %q: %v; the text ends at %d, behind %d tokens", b, got, at, i)
	}
}

// P801: all tokens of all short texts, by modes.One and by package regexp.
func TestAllByOthers(t *testing.T) {
	found := map[int]int{}
	for _, l := range small() {
		x, _ := modes.New(l)
		var patterns []*regexp.Regexp
		for _, r := range l.Rules {
			p := regexp.MustCompile("^(?:" + r.Pattern + ")")
			p.Longest()
			patterns = append(patterns, p)
		}
		for _, s := range texts("abc", 6) {
			got := all(t, l, []byte(s))
			if want := layerBelow(t, x, []byte(s)); !slices.Equal(got, want) {
				t.Fatalf("All of %q: %v; want %v", s, got, want)
			}
			sameAsRegexp(t, l, patterns, []byte(s), got)
			for _, k := range got {
				found[k.Kind]++
			}
		}
	}
	for kind := api.Wrong; kind <= 4; kind++ {
		if found[kind] < 100 {
			t.Errorf("only %d tokens of kind %d", found[kind], kind)
		}
	}
}

// P802: all tokens together are the text: each begins where the last one ends, none is empty, and none is missing.
func TestTogetherTheText(t *testing.T) {
	next := uint32(7)
	for range 500 {
		var b []byte
		for range int(next>>9) % 80 {
			next = next*1664525 + 1013904223
			b = append(b, "if1.\"{a \n/*?#\xe4"[next>>8%14])
		}
		next = next*1664525 + 1013904223
		var together []byte
		for _, k := range all(t, words(), b) {
			if k.At != len(together) || k.Len < 1 {
				t.Fatalf("All of %q: %v behind %d bytes", b, k, len(together))
			}
			together = append(together, b[k.At:k.At+k.Len]...)
		}
		if !bytes.Equal(together, b) {
			t.Fatalf("the tokens of %q are %q", b, together)
		}
	}
}

// P801: only Skip goes, whatever else a token is, and the order stays.
func TestKept(t *testing.T) {
	a, b, c := tok(0, 5, 2, 3, 1), tok(api.Wrong, -4, math.MaxInt, math.MinInt, -1), tok(39, 0, 0, 0, 9)
	far, least, most := tok(-3, 1, 1, 1, 1), tok(math.MinInt, 1, 1, 1, 1), tok(math.MaxInt, 1, 1, 1, 1)
	skip, other := tok(api.Skip, 3, 1, 2, 0), tok(api.Skip, -9, math.MaxInt, -9, 7)
	for _, x := range []struct{ l, want []api.Token }{
		{nil, nil},
		{[]api.Token{}, nil},
		{[]api.Token{skip}, nil},
		{[]api.Token{skip, other, skip}, nil},
		{[]api.Token{{}}, []api.Token{{}}},
		{[]api.Token{a}, []api.Token{a}},
		{[]api.Token{b, b}, []api.Token{b, b}},
		{[]api.Token{skip, a}, []api.Token{a}},
		{[]api.Token{a, skip}, []api.Token{a}},
		{[]api.Token{c, skip, other, a, skip, b, a, other}, []api.Token{c, a, b, a}},
		{[]api.Token{far, skip, least, other, most, c, b, a}, []api.Token{far, least, most, c, b, a}},
	} {
		if got := tokens.Kept(x.l); !slices.Equal(got, x.want) {
			t.Errorf("Kept of %v: %v; want %v", x.l, got, x.want)
		}
	}
	l := all(t, words(), []byte("if /* ? */\"a b\" ?"))
	if got := tokens.Kinds(tokens.Kept(l)); !slices.Equal(got, []int{0, 3, 4, 5, api.Wrong}) {
		t.Errorf("kinds of what is kept of %v: %v", l, got)
	}
}

// P801: the kind of each, in order, also of those that are skipped or wrong.
func TestKinds(t *testing.T) {
	for _, want := range [][]int{
		nil, {0}, {api.Skip}, {api.Wrong}, {39, 0, 0, 39}, {3, api.Skip, 1, api.Wrong, api.Skip, 3}, {math.MinInt, -3, 40, math.MaxInt, 1 << 32},
	} {
		var l []api.Token
		for i, kind := range want {
			l = append(l, tok(kind, 7*i, i-2, 40-i, 3-i))
		}
		if got := tokens.Kinds(l); !slices.Equal(got, want) {
			t.Errorf("Kinds of %v: %v", l, got)
		}
	}
	if got := tokens.Kinds([]api.Token{}); len(got) != 0 {
		t.Errorf("Kinds of none: %v", got)
	}
	if got := tokens.Kinds(all(t, words(), []byte("if \"a\"?"))); !slices.Equal(got, []int{0, api.Skip, 3, 4, 5, api.Wrong}) {
		t.Errorf("Kinds: %v", got)
	}
}

// P802: what is handed in stays as it is, its spare room too, and no call hangs on what becomes of it.
func TestHandedInStays(t *testing.T) {
	l, spare := words(), rule("spare")
	n := len(l.Rules)
	l.Rules = append(l.Rules, spare, spare)[:n]
	rules := slices.Clone(l.Rules[:n+2])
	text := []byte("if \"a b\"spare")[:8]
	got := all(t, l, text)
	if !slices.Equal(l.Rules[:n+2], rules) || string(text[:13]) != "if \"a b\"spare" {
		t.Error("All turns what is handed in")
	}
	was := slices.Clone(got)
	copy(text, "12 if 12")
	clear(l.Rules)
	if !slices.Equal(got, was) {
		t.Error("All keeps what is handed in")
	}

	list := append(slices.Clone(was), tok(9, 9, 9, 9, 9), tok(8, 8, 8, 8, 8))[:len(was)]
	kept, kinds := tokens.Kept(list), tokens.Kinds(list)
	if !slices.Equal(list[:len(was)+2], append(slices.Clone(was), tok(9, 9, 9, 9, 9), tok(8, 8, 8, 8, 8))) {
		t.Error("Kept or Kinds turns what is handed in")
	}
	keptWas, kindsWas := slices.Clone(kept), slices.Clone(kinds)
	clear(list)
	if !slices.Equal(kept, keptWas) || !slices.Equal(kinds, kindsWas) {
		t.Error("Kept or Kinds keeps what is handed in")
	}
}

// P802: what is answered is new memory, where nothing is left out, too: what becomes of it turns no later answer, and nothing that was handed in.
func TestAnswersAreNew(t *testing.T) {
	text := []byte("if \"a b\"")
	first := all(t, words(), text)
	was := slices.Clone(first)
	for i := range first[:cap(first)] {
		first[:cap(first)][i] = tok(7, 7, 7, 7, 7)
	}
	if again := all(t, words(), text); !slices.Equal(again, was) {
		t.Errorf("All answers what it answered before: %v", again)
	}
	for _, l := range [][]api.Token{was, tokens.Kept(was)} {
		stays := slices.Clone(l)
		kept, kinds := tokens.Kept(l), tokens.Kinds(l)
		clear(kept[:cap(kept)])
		clear(kinds[:cap(kinds)])
		if !slices.Equal(l, stays) {
			t.Errorf("Kept or Kinds answers memory of what is handed in: %v", l)
		}
		if len(tokens.Kept(l)) != len(kept) || tokens.Kept(l)[0] != stays[0] {
			t.Error("Kept answers what it answered before")
		}
	}
}

// P802: what is told hangs on the arguments alone, not on what was asked ahead nor on who asks beside.
func TestManyAtOnce(t *testing.T) {
	list := texts("ab\"{ /*?", 3)
	other := lexer(2, api.LexRule{Pattern: "[ab]+", Next: 1, Kind: 2}, api.LexRule{Mode: 1, Pattern: ".", Kind: 3})
	var want [][]api.Token
	for _, s := range list {
		want = append(want, all(t, words(), []byte(s)))
	}
	var group sync.WaitGroup
	for k := range 4 {
		group.Go(func() {
			for i := range list {
				i = (i + 97*k) % len(list)
				tokens.All(other, []byte(list[i]))
				got, e := tokens.All(words(), []byte(list[i]))
				if e != api.OK || !slices.Equal(got, want[i]) {
					t.Errorf("All of %q: %v, %v; want %v", list[i], got, e, want[i])
				}
				tokens.All(lexer(1, rule("")), []byte(list[i]))
			}
		})
	}
	group.Wait()
}
