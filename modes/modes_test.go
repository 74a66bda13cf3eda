package modes_test

import (
	"math"
	"regexp"
	"slices"
	"strings"
	"sync"
	"testing"

	"undergrowth/api"
	"undergrowth/dfa"
	"undergrowth/modes"
	"undergrowth/posit"
	"undergrowth/regex"
	"undergrowth/scan"
)

// rule is one of mode 0 that stays there.
func rule(pattern string) api.LexRule { return api.LexRule{Pattern: pattern} }

// some is n rules of one.
func some(n int, r api.LexRule) []api.LexRule { return slices.Repeat([]api.LexRule{r}, n) }

// lexer is one of so many modes.
func lexer(modes int, rules ...api.LexRule) api.Lexer { return api.Lexer{Modes: modes, Rules: rules} }

// tells looks whether Check tells that place and error, and New the same error and a Lexer just where there is none.
func tells(t *testing.T, what string, l api.Lexer, at int, e api.Errno) {
	t.Helper()
	if gotAt, got := modes.Check(l); gotAt != at || got != e {
		t.Errorf("%s: Check: %d, %v; want %d, %v", what, gotAt, got, at, e)
	}
	if x, got := modes.New(l); got != e || (x != nil) != (e == api.OK) {
		t.Errorf("%s: New: a Lexer: %v, %v; want %v", what, x != nil, got, e)
	}
}

// made is New of l, which is one.
func made(t *testing.T, l api.Lexer) *modes.Lexer {
	t.Helper()
	x, e := modes.New(l)
	if x == nil || e != api.OK {
		t.Fatalf("New: a Lexer: %v, %v", x != nil, e)
	}
	return x
}

// P701: how many modes and rules there may be; nothing is looked at ahead of that.
func TestHowMany(t *testing.T) {
	bad := rule("*")
	for _, n := range []int{0, -1, 9, 10, 256, 257, math.MinInt, math.MinInt + 1, math.MinInt32, math.MaxInt, math.MaxInt32, 1 << 32, 1<<32 + 1} {
		tells(t, "modes", lexer(n), -1, api.ErrLong)
		tells(t, "modes, and a rule at fault", lexer(n, bad), -1, api.ErrLong)
		tells(t, "modes, and too many rules", lexer(n, some(41, rule("a"))...), -1, api.ErrLong)
	}
	for n := 1; n <= api.MaxModes; n++ {
		tells(t, "modes", lexer(n), -1, api.OK)
		tells(t, "empty list", api.Lexer{Modes: n, Rules: []api.LexRule{}}, -1, api.OK)
		tells(t, "most rules", lexer(n, some(40, rule("a"))...), -1, api.OK)
		tells(t, "one rule too many", lexer(n, some(41, rule("a"))...), -1, api.ErrLong)
		tells(t, "one rule too many, all at fault", lexer(n, some(41, bad)...), -1, api.ErrLong)
		tells(t, "most rules, all at fault", lexer(n, some(40, bad)...), 0, api.ErrSyntax)
	}
	spread := some(40, rule("a"))
	for i := range spread {
		spread[i].Mode = i % 8
	}
	tells(t, "rules of all modes", lexer(8, spread...), -1, api.OK)
	tells(t, "rules of all modes, and one", lexer(8, append(spread, rule("a"))...), -1, api.ErrLong)
	tells(t, "very many rules", lexer(1, some(100000, rule("a"))...), -1, api.ErrLong)
}

// P701: numbers of modes and kinds.
func TestNames(t *testing.T) {
	far := []int{math.MinInt, math.MinInt + 1, math.MinInt32, -1 << 32, 1 << 32, 1<<32 + 1, math.MaxInt32, math.MaxInt}
	for n := 1; n <= api.MaxModes; n++ {
		for _, i := range append(far, -9, -2, -1, 0, 1, 2, 6, 7, 8, 9) {
			at, e := -1, api.OK
			if i < 0 || i >= n {
				at, e = 1, api.ErrName
			}
			tells(t, "Mode", lexer(n, rule("a"), api.LexRule{Pattern: "b", Mode: i}), at, e)
			tells(t, "Next", lexer(n, rule("a"), api.LexRule{Pattern: "b", Next: i}), at, e)
			tells(t, "Mode and Next", lexer(n, rule("a"), api.LexRule{Pattern: "b", Mode: i, Next: i}), at, e)
		}
	}
	for _, kind := range append(far, -9, -3, -2, -1, 0, 1, 20, 38, 39, 40, 41) {
		at, e := -1, api.OK
		if kind < -1 || kind > 39 {
			at, e = 1, api.ErrName
		}
		tells(t, "Kind", lexer(1, rule("a"), api.LexRule{Pattern: "b", Kind: kind}), at, e)
	}
}

// patterns that can't be, and why.
var patterns = []struct {
	s string
	e api.Errno
}{
	{strings.Repeat("a", 201), api.ErrLong},
	{strings.Repeat("(", 201), api.ErrLong},
	{"*", api.ErrSyntax},
	{"(a", api.ErrSyntax},
	{"a[]", api.ErrSyntax},
	{"a\\", api.ErrSyntax},
	{"[b-a]", api.ErrSyntax},
	{strings.Repeat("(", 21) + "a" + strings.Repeat(")", 21), api.ErrDeep},
	{strings.Repeat("(", 21), api.ErrDeep},
	{strings.Repeat("a", 151), api.ErrLong},
	{strings.Repeat("a*", 100)[:199] + "b", api.OK},
	{strings.Repeat("(a|b)", 40), api.OK},
	{"(" + strings.Repeat("a", 151) + ")*", api.ErrLong}, // takes nothing, too
	{"(" + strings.Repeat("a", 150) + ")*", api.ErrEmpty},
	{strings.Repeat("a", 150), api.OK},
	{strings.Repeat("a", 150) + strings.Repeat("+", 50), api.OK},
	{"a" + strings.Repeat("+", 199), api.OK},
	{"a" + strings.Repeat("*", 199), api.ErrEmpty},
	{"", api.ErrEmpty},
	{"()", api.ErrEmpty},
	{"|", api.ErrEmpty},
	{"a|", api.ErrEmpty},
	{"a?", api.ErrEmpty},
	{"a*", api.ErrEmpty},
	{"a*b?c*", api.ErrEmpty},
	{"(a|b*)+", api.ErrEmpty},
	{"a*b", api.OK},
	{"a+", api.OK},
	{"(.|\n)", api.OK},
	{strings.Repeat("(", 20) + "a" + strings.Repeat(")", 20), api.OK},
	{"[^\x00-\xff]", api.OK}, // takes no bytes, and not nothing either
	{"[^\x00-\xff]*", api.ErrEmpty},
}

// P701: a rule's pattern, wherever the rule stands and whatever mode it is of.
func TestPatterns(t *testing.T) {
	for _, p := range patterns {
		if p.e == api.OK {
			tells(t, p.s, lexer(1, rule(p.s)), -1, api.OK)
			tells(t, p.s, lexer(2, rule("a"), api.LexRule{Pattern: p.s, Mode: 1}), -1, api.OK)
			continue
		}
		tells(t, p.s, lexer(1, rule(p.s)), 0, p.e)
		tells(t, p.s, lexer(3, rule("a"), rule("b"), api.LexRule{Pattern: p.s, Mode: 2, Next: 1}), 2, p.e)
		tells(t, p.s, lexer(1, append(some(39, rule("a")), rule(p.s))...), 39, p.e)
	}
}

// P701: of several rules at fault the first one is told, and of one rule its numbers come first.
func TestWhichFaultIsTold(t *testing.T) {
	var faults []api.LexRule
	var errors []api.Errno
	for _, p := range patterns {
		if p.e != api.OK {
			faults, errors = append(faults, rule(p.s)), append(errors, p.e)
		}
		for _, r := range []api.LexRule{{Mode: 2}, {Mode: -1}, {Next: 2}, {Next: -1}, {Kind: -2}, {Kind: 40}} {
			r.Pattern = p.s
			faults, errors = append(faults, r), append(errors, api.ErrName)
		}
	}
	many := rule("(a|b)*a" + strings.Repeat("(a|b)", 11))
	for i, r := range faults {
		other := faults[(i+7)%len(faults)]
		tells(t, r.Pattern, lexer(2, r, other), 0, errors[i])
		tells(t, r.Pattern, lexer(2, rule("a"), r, other, many), 1, errors[i])
		// what dfa.Of tells comes at last
		tells(t, r.Pattern, lexer(2, many, r), 1, errors[i])
	}
}

// letters is a rule of a mode that takes one byte n times.
func letters(mode int, c byte, n int) api.LexRule {
	return api.LexRule{Mode: mode, Pattern: strings.Repeat(string([]byte{c}), n)}
}

// P701: dfa.Of's error for the rules of a mode, which are asked together, and for themselves.
func TestTooManyStates(t *testing.T) {
	many := "(a|b)*a" + strings.Repeat("(a|b)", 11)
	half := "(a|b)*a" + strings.Repeat("(a|b)", 9)
	other := "(c|d)*c" + strings.Repeat("(c|d)", 9)
	for m := range api.MaxModes {
		in := func(mode int, pattern string) api.LexRule { return api.LexRule{Mode: mode % 8, Pattern: pattern} }
		tells(t, "one rule", lexer(8, rule("x"), in(m, many), rule("y")), -1, api.ErrLong)
		tells(t, "half as many", lexer(8, in(m, half)), -1, api.OK)
		tells(t, "two rules of one mode", lexer(8, in(m, half), rule("x"), in(m, other)), -1, api.ErrLong)
		tells(t, "two rules of two modes", lexer(8, in(m, half), rule("x"), in(m+1, other)), -1, api.OK)
	}
	// sets of places count, not states
	tells(t, "few states", lexer(1, rule(many), rule("(a|b)+")), -1, api.ErrLong)
	tells(t, "few states", lexer(1, rule("(a|b)+"), rule(many)), -1, api.ErrLong)
	// 2000 with the beginning are not too many
	for m := range 2 {
		var l []api.LexRule
		for i := range 13 {
			l = append(l, letters(m, byte('A'+i), 150))
		}
		tells(t, "most states", lexer(2, append(l, letters(m, 'z', 49))...), -1, api.OK)
		tells(t, "one more", lexer(2, append(l, letters(m, 'z', 50))...), -1, api.ErrLong)
		tells(t, "one more, in the other mode", lexer(2, append(l, letters(m, 'z', 49), letters(1-m, 'z', 150))...), -1, api.OK)
	}
}

// words is a lexer of four modes, the last one without rules; its rules stand in no order of modes.
func words() api.Lexer {
	return lexer(4,
		api.LexRule{Mode: 1, Next: 1, Kind: 4, Pattern: "[^\"{\n]+"},
		api.LexRule{Kind: 0, Pattern: "if"},
		api.LexRule{Mode: 2, Next: 2, Kind: api.Skip, Pattern: "[^*]|\\*"},
		api.LexRule{Kind: 1, Pattern: "[a-z]+"},
		api.LexRule{Mode: 1, Kind: 5, Pattern: "\""},
		api.LexRule{Kind: 2, Pattern: "[0-9]+(\\.[0-9]+)?"},
		api.LexRule{Kind: api.Skip, Pattern: "[ \n]+"},
		api.LexRule{Mode: 2, Kind: api.Skip, Pattern: "\\*/"},
		api.LexRule{Next: 1, Kind: 3, Pattern: "\""},
		api.LexRule{Kind: 39, Pattern: "#[a-z]*#"},
		api.LexRule{Next: 2, Kind: api.Skip, Pattern: "/\\*"},
		api.LexRule{Mode: 1, Next: 3, Kind: 6, Pattern: "{"},
	)
}

// P702: tokens of all kinds.
func TestOne(t *testing.T) {
	x := made(t, words())
	for _, c := range []struct {
		text     string
		at, mode int
		want     api.Token
		next     int
	}{
		{"if", 0, 0, api.Token{Kind: 0, At: 0, Len: 2, Look: 3, Mode: 0}, 0},
		{"if x", 0, 0, api.Token{Kind: 0, At: 0, Len: 2, Look: 3, Mode: 0}, 0},
		{"if x", 1, 0, api.Token{Kind: 1, At: 1, Len: 1, Look: 2, Mode: 0}, 0},
		{"if  x", 2, 0, api.Token{Kind: api.Skip, At: 2, Len: 2, Look: 3, Mode: 0}, 0},
		{"ifs", 0, 0, api.Token{Kind: 1, At: 0, Len: 3, Look: 4, Mode: 0}, 0},
		{"i", 0, 0, api.Token{Kind: 1, At: 0, Len: 1, Look: 2, Mode: 0}, 0},
		{"x12.", 1, 0, api.Token{Kind: 2, At: 1, Len: 2, Look: 4, Mode: 0}, 0},
		{"x12.5.5", 1, 0, api.Token{Kind: 2, At: 1, Len: 4, Look: 5, Mode: 0}, 0},
		{"x \"a b\"", 2, 0, api.Token{Kind: 3, At: 2, Len: 1, Look: 2, Mode: 0}, 1},
		{"x \"a b\"", 3, 1, api.Token{Kind: 4, At: 3, Len: 3, Look: 4, Mode: 1}, 1},
		{"x \"a b\"", 6, 1, api.Token{Kind: 5, At: 6, Len: 1, Look: 2, Mode: 1}, 0},
		{"if\n{if", 0, 1, api.Token{Kind: 4, At: 0, Len: 2, Look: 3, Mode: 1}, 1},
		{"if\n{if", 3, 1, api.Token{Kind: 6, At: 3, Len: 1, Look: 2, Mode: 1}, 3},
		{"#if#", 0, 0, api.Token{Kind: 39, At: 0, Len: 4, Look: 5, Mode: 0}, 0},
		{"/* */", 0, 0, api.Token{Kind: api.Skip, At: 0, Len: 2, Look: 3, Mode: 0}, 2},
		{"/* */", 2, 2, api.Token{Kind: api.Skip, At: 2, Len: 1, Look: 2, Mode: 2}, 2},
		{"/* */", 3, 2, api.Token{Kind: api.Skip, At: 3, Len: 2, Look: 3, Mode: 2}, 0},
		{"**/", 0, 2, api.Token{Kind: api.Skip, At: 0, Len: 1, Look: 2, Mode: 2}, 2},
		// no rule: one byte, whatever was looked at, in the mode that it was
		{"?if", 0, 0, api.Token{Kind: api.Wrong, At: 0, Len: 1, Look: 1, Mode: 0}, 0},
		{"if\xff", 2, 0, api.Token{Kind: api.Wrong, At: 2, Len: 1, Look: 1, Mode: 0}, 0},
		{"x\n\x00", 1, 1, api.Token{Kind: api.Wrong, At: 1, Len: 1, Look: 1, Mode: 1}, 1},
		{"/if", 0, 0, api.Token{Kind: api.Wrong, At: 0, Len: 1, Look: 2, Mode: 0}, 0},
		{"a#if ", 1, 0, api.Token{Kind: api.Wrong, At: 1, Len: 1, Look: 4, Mode: 0}, 0},
		{"a#if", 1, 0, api.Token{Kind: api.Wrong, At: 1, Len: 1, Look: 4, Mode: 0}, 0},
		{"a#", 1, 0, api.Token{Kind: api.Wrong, At: 1, Len: 1, Look: 2, Mode: 0}, 0},
		{"if", 0, 3, api.Token{Kind: api.Wrong, At: 0, Len: 1, Look: 1, Mode: 3}, 3},
		{"if", 1, 3, api.Token{Kind: api.Wrong, At: 1, Len: 1, Look: 1, Mode: 3}, 3},
	} {
		if got, next := x.One([]byte(c.text), c.at, c.mode); got != c.want || next != c.next {
			t.Errorf("One of %q at %d in mode %d: %v, %d; want %v, %d", c.text, c.at, c.mode, got, next, c.want, c.next)
		}
	}
}

// P702: the end of the text.
func TestTheEnd(t *testing.T) {
	x := made(t, words())
	for _, text := range [][]byte{nil, {}, []byte("a"), []byte("\"{ if")} {
		n := len(text)
		for mode := range 4 {
			for _, at := range []int{n, n + 1, n + 2, 1 << 40, math.MaxInt32, math.MaxInt - 1, math.MaxInt} {
				want := api.Token{Kind: api.Wrong, At: n, Len: 0, Look: 1, Mode: mode}
				if got, next := x.One(text, at, mode); got != want || next != mode {
					t.Errorf("One of %q at %d in mode %d: %v, %d", text, at, mode, got, next)
				}
			}
		}
	}
}

// P702: places and modes are cut to those that there are.
func TestCut(t *testing.T) {
	text := []byte("if \"a")
	for n := 1; n <= api.MaxModes; n++ {
		l := lexer(n)
		for m := range n {
			l.Rules = append(l.Rules, api.LexRule{Mode: m, Next: (m + 1) % n, Kind: 10 + m, Pattern: "[^\n]"})
		}
		x := made(t, l)
		for _, mode := range []int{math.MinInt, -1 << 32, -9, -8, -1, 0, 1, 6, 7, 8, 9, 15, 16, 256, 1 << 32, 1<<32 + 1, math.MaxInt} {
			for _, at := range []int{math.MinInt, -1 << 32, -5, -1, 0, 1, 4} {
				m, i := min(max(mode, 0), n-1), max(at, 0)
				want := api.Token{Kind: 10 + m, At: i, Len: 1, Look: 2, Mode: m}
				if got, next := x.One(text, at, mode); got != want || next != (m+1)%n {
					t.Errorf("%d modes: One at %d in mode %d: %v, %d; want %v", n, at, mode, got, next, want)
				}
			}
		}
	}
}

// P702: of rows of one length the first rule of the mode is told, also where a rule of another mode stands ahead of it.
func TestTheFirstRule(t *testing.T) {
	all := []api.LexRule{
		{Mode: 1, Next: 1, Kind: 20, Pattern: "ab|abc"},
		{Mode: 0, Next: 1, Kind: 21, Pattern: "abc"},
		{Mode: 0, Next: 0, Kind: 22, Pattern: "[a-c]+"},
		{Mode: 1, Next: 0, Kind: 23, Pattern: "abcd"},
		{Mode: 1, Next: 0, Kind: 24, Pattern: "[a-d]+"},
		{Mode: 0, Next: 1, Kind: 25, Pattern: "a"},
	}
	next := func(kind int) int {
		i := slices.IndexFunc(all, func(r api.LexRule) bool { return r.Kind == kind })
		return all[i].Next
	}
	for _, c := range []struct {
		back bool
		text string
		want [2]int
		long [2]int
	}{
		{false, "a", [2]int{22, 24}, [2]int{1, 1}},
		{false, "ab", [2]int{22, 20}, [2]int{2, 2}},
		{false, "abc", [2]int{21, 20}, [2]int{3, 3}},
		{false, "abcd", [2]int{21, 23}, [2]int{3, 4}},
		{false, "abca", [2]int{22, 24}, [2]int{4, 4}},
		{true, "a", [2]int{25, 24}, [2]int{1, 1}},
		{true, "ab", [2]int{22, 24}, [2]int{2, 2}},
		{true, "abc", [2]int{22, 24}, [2]int{3, 3}},
		{true, "abcd", [2]int{22, 24}, [2]int{3, 4}},
	} {
		l := slices.Clone(all)
		if c.back {
			slices.Reverse(l)
		}
		x := made(t, lexer(2, l...))
		for mode := range 2 {
			got, to := x.One([]byte(c.text), 0, mode)
			if got.Kind != c.want[mode] || got.Len != c.long[mode] || to != next(got.Kind) {
				t.Errorf("back %v: One of %q in mode %d: %v, %d; want %d", c.back, c.text, mode, got, to, c.want[mode])
			}
		}
	}
}

// P702: two rules of one pattern: the first one's Kind and Next.
func TestTwoRulesOfOnePattern(t *testing.T) {
	x := made(t, lexer(3, api.LexRule{Pattern: "a", Kind: 7, Next: 2}, api.LexRule{Pattern: "a", Kind: 8, Next: 1}))
	if got, next := x.One([]byte("a"), 0, 0); got != (api.Token{Kind: 7, Len: 1, Look: 2}) || next != 2 {
		t.Errorf("%v, %d", got, next)
	}
}

// P702: as many rules as may be, each of which takes something of its own.
func TestManyRules(t *testing.T) {
	var l []api.LexRule
	for i := range 40 {
		r := letters(i%8, byte(0x80+i), i/8+1)
		r.Kind, r.Next = 39-i, (i*3)%8
		l = append(l, r)
	}
	x := made(t, lexer(8, l...))
	for i, r := range l {
		text := []byte("?" + r.Pattern + r.Pattern)
		for mode := range 8 {
			want, to := api.Token{Kind: api.Wrong, At: 1, Len: 1, Look: 1, Mode: mode}, mode
			if mode == i%8 {
				want, to = api.Token{Kind: 39 - i, At: 1, Len: i/8 + 1, Look: i/8 + 2, Mode: mode}, r.Next
			}
			if got, next := x.One(text, 1, mode); got != want || next != to {
				t.Errorf("rule %d in mode %d: %v, %d; want %v, %d", i, mode, got, next, want, to)
			}
		}
	}
}

// texts is all of these letters, of up to so many.
func texts(letters string, most int) []string {
	l := []string{""}
	for from := 0; most > 0; most-- {
		to := len(l)
		for _, s := range l[from:to] {
			for i := range len(letters) {
				l = append(l, s+letters[i:i+1])
			}
		}
		from = to
	}
	return l
}

// automaton is that of the rules of a mode, by the layers below, and which rules these are.
func automaton(t *testing.T, l api.Lexer, mode int) (api.DFA, []api.LexRule) {
	t.Helper()
	var places []api.Posits
	var rules []api.LexRule
	for _, r := range l.Rules {
		if r.Mode != mode {
			continue
		}
		x, _, _ := regex.Parse(r.Pattern)
		p, _ := posit.Of(x)
		places, rules = append(places, p), append(rules, r)
	}
	d, e := dfa.Of(places)
	if e != api.OK {
		t.Fatal(e)
	}
	return d, rules
}

// longest is the token's kind, length and the mode behind it, by package regexp.
func longest(l api.Lexer, b string, at, mode int) (int, int, int) {
	kind, long, next := api.Wrong, 0, mode
	for _, r := range l.Rules {
		x := regexp.MustCompile("^(?:" + r.Pattern + ")")
		x.Longest()
		if n := len(x.FindString(b[at:])); r.Mode == mode && n > long {
			kind, long, next = r.Kind, n, r.Next
		}
	}
	if long == 0 {
		long = min(1, len(b)-at)
	}
	return kind, long, next
}

// P702: all tokens of all short texts, by scan.Next and by package regexp.
func TestOneByTheLayersBelow(t *testing.T) {
	found := map[int]int{}
	for _, l := range []api.Lexer{
		lexer(1, rule("a"), api.LexRule{Pattern: "ab+", Kind: 1}, api.LexRule{Pattern: "b*c", Kind: api.Skip}),
		lexer(2, api.LexRule{Pattern: "(a|b)*abb", Next: 1, Kind: 1}, api.LexRule{Mode: 1, Pattern: "[ab]+", Kind: 2}, api.LexRule{Pattern: "[ab]", Kind: 3}, api.LexRule{Mode: 1, Next: 1, Pattern: "c", Kind: 4}),
		lexer(3, api.LexRule{Mode: 2, Pattern: "a.c", Next: 1, Kind: 1}, api.LexRule{Mode: 1, Pattern: "(ab)+", Next: 2, Kind: 2}, api.LexRule{Mode: 1, Pattern: "a", Kind: 3}, api.LexRule{Mode: 2, Pattern: "[^a]b?", Kind: 4}),
	} {
		x := made(t, l)
		for mode := range l.Modes {
			d, rules := automaton(t, l, mode)
			for _, b := range texts("abc", 5) {
				for at := range len(b) + 1 {
					got, next := x.One([]byte(b), at, mode)
					kind, long, to := longest(l, b, at, mode)
					rule, n, look := scan.Next(d, []byte(b), at)
					if rule >= 0 && (rules[rule].Kind != kind || rules[rule].Next != to || n != long) {
						t.Fatalf("scan.Next and package regexp tell %q at %d in mode %d apart", b, at, mode)
					}
					if want := (api.Token{Kind: kind, At: at, Len: long, Look: look, Mode: mode}); got != want || next != to {
						t.Fatalf("One of %q at %d in mode %d: %v, %d; want %v, %d", b, at, mode, got, next, want, to)
					}
					found[kind]++
				}
			}
		}
	}
	for kind := api.Wrong; kind <= 4; kind++ {
		if found[kind] < 100 {
			t.Errorf("only %d tokens of kind %d", found[kind], kind)
		}
	}
}

// P702: a token's Look is what it hangs on: what stands ahead of it, and behind what was looked at, turns nothing.
func TestWhatIsAsked(t *testing.T) {
	x := made(t, words())
	for _, b := range texts("if12.\"#", 4) {
		for mode := range 4 {
			want, to := x.One([]byte(b), 0, mode)
			moved := want
			moved.At = 3
			for _, ahead := range []string{"if ", "\"{\"", "#i#", "1.2"} {
				if got, next := x.One([]byte(ahead+b), 3, mode); got != moved || next != to {
					t.Fatalf("One of %q behind %q: %v, %d; want %v, %d", b, ahead, got, next, moved, to)
				}
			}
			if want.Look > len(b) {
				continue
			}
			for _, behind := range []string{"", "f", ".2", "\"", "#"} {
				if got, next := x.One([]byte(b[:want.Look]+behind), 0, mode); got != want || next != to {
					t.Fatalf("One of %q, then %q: %v, %d; want %v, %d", b[:want.Look], behind, got, next, want, to)
				}
			}
		}
	}
}

// P702: long texts.
func TestLongTexts(t *testing.T) {
	x := made(t, words())
	const n = 1 << 20
	for _, c := range []struct {
		text  string
		token api.Token
	}{
		{strings.Repeat("a", n), api.Token{Kind: 1, Len: n, Look: n + 1}},
		{strings.Repeat("a", n) + "1", api.Token{Kind: 1, Len: n, Look: n + 1}},
		{"#" + strings.Repeat("a", n), api.Token{Kind: api.Wrong, Len: 1, Look: n + 2}},
		{"#" + strings.Repeat("a", n) + "#", api.Token{Kind: 39, Len: n + 2, Look: n + 3}},
	} {
		if got, next := x.One([]byte(c.text), 0, 0); got != c.token || next != 0 {
			t.Errorf("One of %d bytes: %v, %d; want %v", len(c.text), got, next, c.token)
		}
	}
}

// P703: a nil Lexer, and one that New did not make, are as one without rules, of one mode.
func TestNil(t *testing.T) {
	var none *modes.Lexer
	for what, x := range map[string]*modes.Lexer{"nil": none, "zero": {}, "without rules": made(t, lexer(1))} {
		for _, b := range [][]byte{nil, []byte("a"), []byte("if \xff")} {
			for _, at := range []int{math.MinInt, -1, 0, 1, 2, 4, 5, math.MaxInt} {
				for _, mode := range []int{math.MinInt, -1, 0, 1, 7, math.MaxInt} {
					i := min(max(at, 0), len(b))
					want := api.Token{Kind: api.Wrong, At: i, Len: min(1, len(b)-i), Look: 1}
					if got, next := x.One(b, at, mode); got != want || next != 0 {
						t.Errorf("%s: One of %q at %d in mode %d: %v, %d", what, b, at, mode, got, next)
					}
				}
			}
		}
	}
}

// P703: what is handed in stays as it is, its spare room too, and is not kept.
func TestHandedInStays(t *testing.T) {
	l, spare := words(), rule("spare")
	n := len(l.Rules)
	l.Rules = append(l.Rules, spare, spare)[:n]
	was := slices.Clone(l.Rules[:n+2])
	text := []byte("if \"a b\"spare")[:8]
	modes.Check(l)
	x, y := made(t, l), made(t, l)
	told := func(x *modes.Lexer) []api.Token {
		var out []api.Token
		for at := range len(text) + 1 {
			for mode := range 4 {
				token, next := x.One(text, at, mode)
				out = append(out, token, api.Token{Mode: next})
			}
		}
		return out
	}
	want := told(x)
	if !slices.Equal(l.Rules[:n+2], was) || string(text[:13]) != "if \"a b\"spare" {
		t.Error("what is handed in has turned")
	}
	for i := range l.Rules {
		l.Rules[i] = api.LexRule{Pattern: "(", Mode: 9, Next: 9, Kind: 9}
	}
	l.Modes = 1
	// y was not asked for a token yet
	if !slices.Equal(told(y), want) || !slices.Equal(told(x), want) {
		t.Error("what was handed in is kept")
	}
	copy(text, "12 if 12")
	if got, _ := x.One(text, 0, 0); got != (api.Token{Kind: 2, Len: 2, Look: 3}) {
		t.Errorf("a text is kept: %v", got)
	}
}

// P703: two Lexers have nothing in common, whichever of them is asked, and how often.
func TestTwoLexers(t *testing.T) {
	x := made(t, lexer(2, rule("a+"), api.LexRule{Pattern: "b", Kind: 1, Next: 1}))
	y := made(t, lexer(2, api.LexRule{Pattern: "[ab]+", Kind: 2}, api.LexRule{Mode: 1, Pattern: "a", Kind: 3}))
	text := []byte("aab")
	for range 3 {
		for mode, want := range []api.Token{{Kind: 0, Len: 2, Look: 3}, {Kind: api.Wrong, Len: 1, Look: 1, Mode: 1}} {
			if got, next := x.One(text, 0, mode); got != want || next != mode {
				t.Errorf("the first one in mode %d: %v, %d", mode, got, next)
			}
		}
		for mode, want := range []api.Token{{Kind: 2, Len: 3, Look: 4}, {Kind: 3, Len: 1, Look: 2, Mode: 1}} {
			if got, next := y.One(text, 0, mode); got != want || next != 0 {
				t.Errorf("the second one in mode %d: %v, %d", mode, got, next)
			}
		}
	}
}

// P703: what One tells hangs on the lexer and its arguments alone: not on who asks first, nor on what was asked ahead.
func TestManyAtOnce(t *testing.T) {
	const text = "if \"a b{12?/* 3.4 */"
	type answer struct {
		token api.Token
		next  int
	}
	told := func(x *modes.Lexer, at, mode int) answer {
		token, next := x.One([]byte(text), at, mode)
		return answer{token, next}
	}
	var want []answer
	alone := made(t, words())
	for i := range 4 * (len(text) + 1) {
		want = append(want, told(alone, i/4, i%4))
	}
	for turn := range 20 {
		x := made(t, words())
		var group sync.WaitGroup
		for k := range 8 {
			group.Go(func() {
				for i := range want {
					i = (i*(2*k+1) + turn) % len(want)
					if got := told(x, i/4, i%4); got != want[i] {
						t.Errorf("One at %d in mode %d: %v; want %v", i/4, i%4, got, want[i])
					}
				}
			})
		}
		group.Wait()
	}
	for range 3 {
		tells(t, "asked again", words(), -1, api.OK)
		tells(t, "asked again", lexer(1, rule("a"), rule("")), 1, api.ErrEmpty)
	}
}
