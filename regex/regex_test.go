package regex_test

import (
	"math"
	"regexp"
	"slices"
	"strings"
	"testing"

	"undergrowth/api"
	"undergrowth/regex"
)

// set is the one of the bytes of s.
func set(s string) api.Re {
	x := api.Re{Op: api.RSet}
	for i := range len(s) {
		x.Set[s[i]/64] |= 1 << (s[i] % 64)
	}
	return x
}

// not is the set of all bytes that are not in s.
func not(s string) api.Re {
	var all []byte
	for c := range 256 {
		if strings.IndexByte(s, byte(c)) < 0 {
			all = append(all, byte(c))
		}
	}
	return set(string(all))
}

func cat(kids ...api.Re) api.Re { return api.Re{Op: api.RCat, Kids: kids} }
func alt(kids ...api.Re) api.Re { return api.Re{Op: api.RAlt, Kids: kids} }
func star(x api.Re) api.Re      { return api.Re{Op: api.RStar, Kids: []api.Re{x}} }
func plus(x api.Re) api.Re      { return api.Re{Op: api.RPlus, Kids: []api.Re{x}} }
func opt(x api.Re) api.Re       { return api.Re{Op: api.ROpt, Kids: []api.Re{x}} }

func same(a, b api.Re) bool {
	return a.Op == b.Op && a.Set == b.Set && slices.EqualFunc(a.Kids, b.Kids, same)
}

// reads looks whether Parse of s is x, with the text's length beside.
func reads(t *testing.T, s string, x api.Re) {
	t.Helper()
	if got, at, e := regex.Parse(s); !same(got, x) || at != len(s) || e != api.OK {
		t.Errorf("Parse %q: %v, %d, %v; want %v", s, got, at, e, x)
	}
}

// refuses looks whether Parse of s tells that error there, and no pattern.
func refuses(t *testing.T, s string, at int, e api.Errno) {
	t.Helper()
	if got, gotAt, gotE := regex.Parse(s); !same(got, api.Re{}) || gotAt != at || gotE != e {
		t.Errorf("Parse %q: %v, %d, %v; want %d, %v", s, got, gotAt, gotE, at, e)
	}
}

// each calls f with every text of up to most bytes of an alphabet.
func each(alphabet string, most int, f func(s string)) {
	var grow func(s string)
	grow = func(s string) {
		f(s)
		if len(s) == most {
			return
		}
		for i := range len(alphabet) {
			grow(s + alphabet[i:i+1])
		}
	}
	grow("")
}

// P301: alternatives, sequences, repeated parts and brackets.
func TestParse(t *testing.T) {
	a, b, c, none := set("a"), set("b"), set("c"), api.Re{}
	for _, x := range []struct {
		s string
		x api.Re
	}{
		{"", none},
		{"a", a},
		{"abc", cat(a, b, c)},
		{"a|b|c", alt(a, b, c)},
		{"ab|bc|", alt(cat(a, b), cat(b, c), none)},
		{"||", alt(none, none, none)},
		{"a*b+c?", cat(star(a), plus(b), opt(c))},
		{"a*+?", opt(plus(star(a)))},
		{"a??", opt(opt(a))},
		{"a|b*", alt(a, star(b))},
		{"ab*", cat(a, star(b))},
		{"()", none},
		{"(())", none},
		{"()()", cat(none, none)},
		{"()|()", alt(none, none)},
		{"(|)", alt(none, none)},
		{"()*", star(none)},
		{"(a)", a},
		{"(ab)", cat(a, b)},
		{"(ab)c", cat(cat(a, b), c)},
		{"((ab))", cat(a, b)},
		{"(a|b)|c", alt(alt(a, b), c)},
		{"(a|b)c", cat(alt(a, b), c)},
		{"a|(b)", alt(a, b)},
		{"(a*)+", plus(star(a))},
		{"(a|)(|b)", cat(alt(a, none), alt(none, b))},
		{"((a)(b))(c)", cat(cat(a, b), c)},
	} {
		reads(t, x.s, x.x)
	}
}

// P301: every byte is an atom, alone or behind a `\`, as the chapter has it.
func TestParseOfEachByte(t *testing.T) {
	for c := range 256 {
		one := string([]byte{byte(c)})
		reads(t, "\\"+one, set(one))
		reads(t, "\\"+one+"*x", cat(star(set(one)), set("x")))
		switch {
		case one == ".":
			reads(t, one, not("\n"))
		case one == "|":
			reads(t, one, alt(api.Re{}, api.Re{}))
		case one == "(" || one == "[" || one == "\\":
			refuses(t, one, 1, api.ErrSyntax)
		case strings.Contains("*+?)]", one):
			refuses(t, one, 0, api.ErrSyntax)
		default:
			reads(t, one, set(one))
		}
	}
}

// P301: a `.` takes all bytes but 10, and is nothing of its own within a set.
func TestParseOfDot(t *testing.T) {
	x, _, _ := regex.Parse(".")
	for c := range 256 {
		if regex.Has(x.Set, byte(c)) != (c != 10) {
			t.Errorf("a dot and %d", c)
		}
	}
	reads(t, "..", cat(not("\n"), not("\n")))
	reads(t, "[.]", set("."))
}

// P301: sets, item by item.
func TestParseOfSets(t *testing.T) {
	for _, x := range []struct {
		s string
		x api.Re
	}{
		{"[a]", set("a")},
		{"[aa]", set("a")},
		{"[cab]", set("abc")},
		{"[a-d]", set("abcd")},
		{"[a-a]", set("a")},
		{"[a-ca-d]", set("abcd")},
		{"[a-]", set("a-")},
		{"[-a]", set("a-")},
		{"[-]", set("-")},
		{"[--]", set("-")},
		{"[---]", set("-")},
		{"[----]", set("-")},
		{"[a-c-]", set("abc-")},
		{"[a-c-e]", set("abc-e")},
		{"[a-c-e-g]", set("abc-efg")},
		{"[--/]", set("-./")},
		{"[+--]", set("+,-")},
		{"[\\--/]", set("-./")},
		{"[+-\\-]", set("+,-")},
		{"[+\\--]", set("+-")},
		{"[a\\-c]", set("a-c")},
		{"[\\a-\\c]", set("abc")},
		{"[\\]]", set("]")},
		{"[\\\\]", set("\\")},
		{"[Z-\\]]", set("Z[\\]")},
		{"[\\]-a]", set("]^_`a")},
		{"[\\^]", set("^")},
		{"[a^]", set("a^")},
		{"[[-^]", set("[\\]^")},
		{"[|*+?().[]", set("|*+?().[")},
		{"[^a]", not("a")},
		{"[^^]", not("^")},
		{"[^a^]", not("a^")},
		{"[^^-a]", not("^_`a")},
		{"[^-]", not("-")},
		{"[^-a]", not("-a")},
		{"[^--/]", not("-./")},
		{"[^\\]]", not("]")},
		{"[^\n]", not("\n")},
		{"[\x00-\xff]", not("")},
		{"[^\x00-\xff]", set("")},
		{"[\xfe-\xff]", set("\xfe\xff")},
		{"[?-@\x7f-\x80]", set("?@\x7f\x80")},
	} {
		reads(t, x.s, x.x)
		reads(t, x.s+"*|a", alt(star(x.x), set("a")))
	}
}

// bounds is the set of all bytes from first up to last.
func bounds(first, last int) api.Re {
	var all []byte
	for c := first; c <= last; c++ {
		all = append(all, byte(c))
	}
	return set(string(all))
}

// P301: an item of any two bytes; the second one may not be below the first.
func TestParseOfEachItem(t *testing.T) {
	for first := range 256 {
		for last := range 256 {
			s := string([]byte{'[', '\\', byte(first), '-', '\\', byte(last), ']'})
			if last < first {
				refuses(t, s, 4, api.ErrSyntax)
			} else {
				reads(t, s, bounds(first, last))
			}
		}
	}
}

// member finds a set's first item, as the chapter's sentence has it: two bytes with a `-` between are sought first.
var member = regexp.MustCompile(`(?s)^(?:(\\.|[^\]\\])-(\\.|[^\]\\])|(\\.|[^\]\\]))`)

// byHand reads a set between `[` and `]` by cutting items off one by one, and tells whether s is one.
func byHand(s string) (api.Re, bool) {
	if len(s) < 2 || s[0] != '[' || s[len(s)-1] != ']' {
		return api.Re{}, false
	}
	rest, other := strings.CutPrefix(s[1:], "^")
	bytes := ""
	for rest != "]" || bytes == "" {
		m := member.FindStringSubmatch(rest)
		if m == nil {
			return api.Re{}, false
		}
		first, last := m[1], m[2]
		if m[3] != "" {
			first, last = m[3], m[3]
		}
		from, to := int(first[len(first)-1]), int(last[len(last)-1])
		if to < from {
			return api.Re{}, false
		}
		for c := from; c <= to; c++ {
			bytes += string([]byte{byte(c)})
		}
		rest = rest[len(m[0]):]
	}
	if other {
		return not(bytes), true
	}
	return set(bytes), true
}

// P301: all short sets of the bytes that mean something in them are read as by hand.
func TestParseOfAllShortSets(t *testing.T) {
	n := 0
	each("-^]\\[ab", 5, func(s string) {
		s = "[" + s + "]"
		want, ok := byHand(s)
		got, at, e := regex.Parse(s)
		if ok && (e != api.OK || at != len(s) || !same(got, want)) {
			t.Fatalf("Parse %q: %v, %d, %v; want %v", s, got, at, e, want)
		}
		if !ok && e == api.OK && got.Op == api.RSet {
			t.Fatalf("Parse %q: %v", s, got)
		}
		if ok {
			n++
		}
	})
	if n < 1000 {
		t.Errorf("only %d sets", n)
	}
}

// P301: ErrSyntax at the byte that can't be, or at the text's length.
func TestSyntaxErrors(t *testing.T) {
	for _, x := range []struct {
		s  string
		at int
	}{
		{"*", 0}, {"+", 0}, {"?", 0}, {"a|?", 2}, {"|+", 1}, {"(*a)", 1}, {"(a|*)", 3},
		{")", 0}, {"a)", 1}, {"(a))", 3}, {"())(", 2}, {"a|)", 2}, {"a*)", 2},
		{"]", 0}, {"a]", 1}, {"(]", 1}, {"[a]]", 3},
		{"(", 1}, {"(a", 2}, {"(a|", 3}, {"((a)", 4}, {"(a(b)", 5},
		{"\\", 1}, {"ab\\", 3}, {"(\\", 2}, {"\\\\\\", 3},
		{"[", 1}, {"[^", 2}, {"[]", 1}, {"[^]", 2}, {"[]]", 1}, {"[^]]", 2}, {"x[]x]", 2},
		{"[a", 2}, {"[a-", 3}, {"[-", 2}, {"[--", 3}, {"[a-b", 4}, {"[^a-b", 5}, {"[\\", 2}, {"[^\\", 3}, {"[a\\", 3}, {"[a-\\", 4}, {"[\\]", 3}, {"[A-\\]", 5}, {"[(a", 3}, {"[]-^]", 1},
		{"[b-a]", 3}, {"[b-\\a]", 3}, {"[\\b-a]", 4}, {"[\\b-\\a]", 4}, {"[^b-a]", 4}, {"[ab-a]", 4}, {"[a--]", 3}, {"[a--b]", 3}, {"[a-^]", 3}, {"[\xff-\x00]", 3}, {"[a-\\]", 3}, {"[a-\\]]", 3}, {"(x|[b-a]", 6},
	} {
		refuses(t, x.s, x.at, api.ErrSyntax)
	}
}

// P301: the first fault from the left is told, whatever comes behind it.
func TestTheFirstFaultIsTold(t *testing.T) {
	for _, x := range []struct {
		s  string
		at int
	}{
		{"a)*", 1}, {"*)", 0}, {"[b-a", 3}, {"[b-a]*)", 3}, {"[b-\\a", 3}, {"[d-c][b-a]", 3}, {"(*", 1}, {"]\\", 0},
		{"*" + strings.Repeat("(", 21), 0},
		{strings.Repeat("(", 19) + "*((", 19},
	} {
		refuses(t, x.s, x.at, api.ErrSyntax)
	}
	each("a|*()[]-\\", 5, func(s string) {
		_, at, e := regex.Parse(s)
		if e == api.OK || at == len(s) {
			return
		}
		for _, more := range []string{"", "a", ")", "]", "\\", "*", ")]", "a]"} {
			if _, now, again := regex.Parse(s + more); now != at || again != e {
				t.Fatalf("Parse %q: %d, %v; with %q behind it: %d, %v", s, at, e, more, now, again)
			}
		}
	})
}

// P301: where a text only ends too early, something behind it makes it a pattern;
// where it is refused ahead of that, what stands ahead of the fault can be made one.
func TestFaultsAreNotToldTooEarly(t *testing.T) {
	each("ab|*()[]^-\\", 4, func(s string) {
		_, at, e := regex.Parse(s)
		if e == api.OK {
			return
		}
		ends := []string{"", "a", "a]", "]", "b]", "\\b]", "~]"}
		for _, end := range ends {
			for brackets := range 6 {
				if _, _, e := regex.Parse(s[:at] + end + strings.Repeat(")", brackets)); e == api.OK {
					return
				}
			}
		}
		t.Fatalf("Parse %q: told at %d, but nothing goes on behind that", s, at)
	})
}

// P301: ErrLong at more than 200 bytes, ahead of all else.
func TestLong(t *testing.T) {
	for _, s := range []string{"a", "*", "(", ")", "[", "\\", "|", "\xff"} {
		refuses(t, strings.Repeat(s, api.MaxPattern+1), 0, api.ErrLong)
		refuses(t, strings.Repeat(s, 5000), 0, api.ErrLong)
	}
	most := strings.Repeat("a", api.MaxPattern)
	if x, at, e := regex.Parse(most); e != api.OK || at != api.MaxPattern || x.Op != api.RCat || len(x.Kids) != api.MaxPattern {
		t.Errorf("as long as may be: %d, %v", at, e)
	}
	if x, at, e := regex.Parse(strings.Repeat("|", api.MaxPattern)); e != api.OK || at != api.MaxPattern || x.Op != api.RAlt || len(x.Kids) != api.MaxPattern+1 {
		t.Errorf("as many bars as may be: %d, %v", at, e)
	}
	reads(t, strings.Repeat("()", 100), cat(make([]api.Re, 100)...))
	refuses(t, most[1:]+"(", api.MaxPattern, api.ErrSyntax)
	refuses(t, most[1:]+")", api.MaxPattern-1, api.ErrSyntax)
}

// P301: ErrDeep at a bracket that stands within 20 others.
func TestDeep(t *testing.T) {
	for n := range 40 {
		open, shut := strings.Repeat("(", n), strings.Repeat(")", n)
		if n <= api.MaxDeep {
			reads(t, open+"a"+shut, set("a"))
			reads(t, open+shut, api.Re{})
			reads(t, open+"[a-b]"+shut, set("ab"))
		} else {
			refuses(t, open+"a"+shut, api.MaxDeep, api.ErrDeep)
			refuses(t, open, api.MaxDeep, api.ErrDeep)
			refuses(t, open+"*", api.MaxDeep, api.ErrDeep)
		}
	}
	twenty, shut := strings.Repeat("(", api.MaxDeep), strings.Repeat(")", api.MaxDeep)
	refuses(t, twenty+"a|b(c)"+shut, 23, api.ErrDeep)
	refuses(t, "ab"+twenty+"(", 22, api.ErrDeep)
	reads(t, twenty+"\\([(]"+shut, cat(set("("), set("(")))
	reads(t, strings.Repeat("(a)", 60), cat(slices.Repeat([]api.Re{set("a")}, 60)...))
	reads(t, twenty+"a"+shut+twenty+"b"+shut, cat(set("a"), set("b")))
	reads(t, twenty+")()"+shut[1:], cat(api.Re{}, api.Re{}))
}

// shows looks whether Show of x is s.
func shows(t *testing.T, x api.Re, s string) {
	t.Helper()
	if got := regex.Show(x); got != s {
		t.Errorf("Show %v: %q, want %q", x, got, s)
	}
}

// P302: Show of patterns, with brackets just where they are needed.
func TestShow(t *testing.T) {
	a, b, none := set("a"), set("b"), api.Re{}
	for _, x := range []struct {
		x api.Re
		s string
	}{
		{none, ""},
		{a, "a"},
		{cat(a, b), "ab"},
		{alt(a, b), "a|b"},
		{alt(a, none, b), "a||b"},
		{alt(none, none), "|"},
		{star(a), "a*"}, {plus(a), "a+"}, {opt(a), "a?"},
		{star(plus(opt(a))), "a?+*"},
		{star(none), "()*"}, {plus(none), "()+"}, {opt(none), "()?"},
		{star(cat(a, b)), "(ab)*"}, {plus(cat(a, b)), "(ab)+"}, {opt(cat(a, b)), "(ab)?"},
		{star(alt(a, b)), "(a|b)*"}, {plus(alt(a, b)), "(a|b)+"}, {opt(alt(a, b)), "(a|b)?"},
		{cat(a, none), "a()"},
		{cat(none, none), "()()"},
		{cat(cat(a, b), a), "(ab)a"},
		{cat(alt(a, b), alt(none, a)), "(a|b)(|a)"},
		{cat(star(a), plus(b), opt(a)), "a*b+a?"},
		{alt(cat(a, b), cat(b, a)), "ab|ba"},
		{alt(alt(a, b), a), "(a|b)|a"},
		{alt(a, alt(b, none)), "a|(b|)"},
		{alt(star(a), opt(b)), "a*|b?"},
		{star(cat(alt(a, cat(a, b)), none)), "((a|ab)())*"},
		{cat(set("\n"), set("."), not("\n")), "\n\\.."},
	} {
		shows(t, x.x, x.s)
		reads(t, x.s, x.x)
	}
}

// P302: a set of one byte is that byte, with a `\` ahead of just ten of them.
func TestShowOfEachByte(t *testing.T) {
	for c := range 256 {
		one := string([]byte{byte(c)})
		if strings.Contains("|*+?()[].\\", one) {
			shows(t, set(one), "\\"+one)
		} else {
			shows(t, set(one), one)
		}
	}
}

// P302: sets of many bytes and of none.
func TestShowOfSets(t *testing.T) {
	for _, x := range []struct{ bytes, s string }{
		{"", "[]"},
		{"ab", "[ab]"},
		{"abc", "[a-c]"},
		{"abcd", "[a-d]"},
		{"ac", "[ac]"},
		{"acd", "[acd]"},
		{"abcefgxy", "[a-ce-gxy]"},
		{"]\\", "[\\\\\\]]"},
		{"^a", "[\\^a]"},
		{"-a", "[\\-a]"},
		{"-./", "[\\--/]"},
		{"+,-", "[+-\\-]"},
		{"[\\]", "[[-\\]]"},
		{"Z[\\", "[Z-\\\\]"},
		{"\\]^", "[\\\\-\\^]"},
		{"]^", "[\\]\\^]"},
		{"^_`", "[\\^-`]"},
		{",-", "[,\\-]"},
		{"|*+?().", "[(-+.?|]"},
		{"\x00\xff", "[\x00\xff]"},
		{"\xfd\xfe\xff", "[\xfd-\xff]"},
		{"\xfe\xff", "[\xfe\xff]"},
		{"\x00\x01\x02", "[\x00-\x02]"},
		{">?@A\x7f\x80", "[>-A\x7f\x80]"},
		{"\n.", "[\n.]"},
	} {
		shows(t, set(x.bytes), x.s)
		if x.bytes != "" {
			reads(t, x.s, set(x.bytes))
		}
	}
	shows(t, not("\n"), ".")
	shows(t, not(""), "[\x00-\xff]")
	shows(t, not("\n."), "[\x00-\t\x0b-\\-/-\xff]")
	shows(t, not("\x00"), "[\x01-\xff]")
	shows(t, not("\xff"), "[\x00-\xfe]")
	shows(t, cat(set(""), set("a")), "[]a")
	shows(t, star(set("")), "[]*")
	refuses(t, regex.Show(set("")), 1, api.ErrSyntax)
}

// P302: every set of up to four bytes among those that mean something, and of all others, is read again.
func TestShowOfSmallSets(t *testing.T) {
	each("-^]\\[.+,ab\x00\xff", 4, func(s string) {
		if s != "" {
			reads(t, regex.Show(set(s)), set(s))
			reads(t, regex.Show(not(s)), not(s))
		}
	})
}

// P302: what Parse tells of any short text, Show writes so that it is read again, and hardly longer than it was.
func TestShowOfAllShortTexts(t *testing.T) {
	n := 0
	each("ab|*?()[]-\\.", 5, func(s string) {
		x, _, e := regex.Parse(s)
		if e != api.OK {
			return
		}
		n++
		text := regex.Show(x)
		again, at, e := regex.Parse(text)
		if e != api.OK || at != len(text) || !same(again, x) {
			t.Fatalf("%q: Show: %q: %d, %v", s, text, at, e)
		}
		if len(text) > len(s)+2 {
			t.Fatalf("%q: Show: %q", s, text)
		}
	})
	if n < 1000 {
		t.Errorf("only %d patterns", n)
	}
}

// dice is a plain row of numbers that is the same in every run.
type dice uint32

func (d *dice) below(n int) int {
	*d = *d*1664525 + 1013904223
	return int(*d>>8) % n
}

// pattern is one as Parse tells them, with brackets at most deep in one another.
func (d *dice) pattern(deep int) api.Re {
	if deep == 0 || d.below(4) == 0 {
		return d.leaf()
	}
	switch d.below(5) {
	case 0:
		return cat(d.patterns(deep)...)
	case 1:
		return alt(d.patterns(deep)...)
	case 2:
		return star(d.pattern(deep - 1))
	case 3:
		return plus(d.pattern(deep - 1))
	}
	return opt(d.pattern(deep - 1))
}

func (d *dice) patterns(deep int) []api.Re {
	var list []api.Re
	for range 2 + d.below(2) {
		list = append(list, d.pattern(deep-1))
	}
	return list
}

func (d *dice) leaf() api.Re {
	var bytes []byte
	for range 1 + d.below(3) {
		bytes = append(bytes, byte(d.below(256)))
	}
	switch d.below(6) {
	case 0:
		return api.Re{}
	case 1:
		return not(string(bytes))
	case 2:
		return set(string(bytes))
	}
	return set(string(bytes[:1]))
}

// P302: patterns of any make are read again, if their text is short enough.
func TestShowOfAnyPattern(t *testing.T) {
	d, n := dice(3), 0
	for range 20000 {
		x := d.pattern(5)
		text := regex.Show(x)
		got, at, e := regex.Parse(text)
		if len(text) > api.MaxPattern {
			refuses(t, text, 0, api.ErrLong)
			continue
		}
		n++
		if e != api.OK || at != len(text) || !same(got, x) {
			t.Fatalf("Show %v: %q: %d, %v", x, text, at, e)
		}
	}
	if n < 10000 {
		t.Errorf("only %d patterns", n)
	}
}

// P302: as deep as brackets may be.
func TestShowOfDeepPatterns(t *testing.T) {
	x := cat(set("a"), set("b"))
	for range api.MaxDeep {
		x = cat(x, set("c"))
	}
	text := strings.Repeat("(", api.MaxDeep) + "ab" + strings.Repeat(")c", api.MaxDeep)
	shows(t, x, text)
	reads(t, text, x)
	refuses(t, regex.Show(star(x)), api.MaxDeep, api.ErrDeep)
}

// P302: Show ends, and does not panic, at what Parse never tells: it is as chapter 4 takes it.
func TestShowOfWhatParseNeverTells(t *testing.T) {
	a, b := set("a"), set("b")
	for _, op := range []int{math.MinInt, -1, 7, math.MaxInt} {
		shows(t, api.Re{Op: op}, "")
		shows(t, api.Re{Op: op, Set: a.Set, Kids: []api.Re{a}}, "")
		shows(t, cat(a, api.Re{Op: op, Kids: []api.Re{a}}), "a()")
	}
	for op := api.RCat; op <= api.ROpt; op++ {
		for _, kids := range [][]api.Re{nil, {}} {
			lone := api.Re{Op: op, Kids: kids}
			shows(t, lone, "")
			shows(t, star(lone), "()*")
			shows(t, cat(a, lone), "a()")
			shows(t, alt(a, lone), "a|")
		}
	}
	shows(t, api.Re{Op: api.RStar, Kids: []api.Re{a, b}}, "a*")
	shows(t, api.Re{Op: api.RPlus, Kids: []api.Re{a, b}}, "a+")
	shows(t, api.Re{Op: api.ROpt, Kids: []api.Re{a, b}}, "a?")
	shows(t, api.Re{Op: api.RNone, Set: a.Set, Kids: []api.Re{a}}, "")
	shows(t, api.Re{Op: api.RSet, Set: a.Set, Kids: []api.Re{b}}, "a")
	shows(t, api.Re{Op: api.RCat, Set: b.Set, Kids: []api.Re{a}}, "a")
	shows(t, alt(a), "a")
	shows(t, star(cat(a)), "(a)*")
	shows(t, cat(api.Re{}), "()")
}

// P302: Show of a pattern that is deeper than calls can be.
func TestShowOfVeryDeepPatterns(t *testing.T) {
	const deep = 1 << 22
	x := set("a")
	for range deep {
		x = star(x)
	}
	if got := regex.Show(x); len(got) != deep+1 || got[0] != 'a' || strings.Trim(got[1:], "*") != "" {
		t.Errorf("%d bytes", len(got))
	}
}

// P302: Has of each byte in sets of one, of all others, of none and of all.
func TestHas(t *testing.T) {
	for c := range 256 {
		one := string([]byte{byte(c)})
		for d := range 256 {
			if regex.Has(set(one).Set, byte(d)) != (c == d) || regex.Has(not(one).Set, byte(d)) != (c != d) {
				t.Errorf("Has of %d and %d", c, d)
			}
		}
		if regex.Has([4]uint64{}, byte(c)) || !regex.Has([4]uint64{math.MaxUint64, math.MaxUint64, math.MaxUint64, math.MaxUint64}, byte(c)) {
			t.Errorf("Has of none or all: %d", c)
		}
	}
}

// copied is x in other memory.
func copied(x api.Re) api.Re {
	kids := make([]api.Re, len(x.Kids))
	for i := range kids {
		kids[i] = copied(x.Kids[i])
	}
	x.Kids = kids
	return x
}

// lists are all lists of kids within x.
func lists(x *api.Re) [][]api.Re {
	all := [][]api.Re{x.Kids}
	for i := range x.Kids {
		all = append(all, lists(&x.Kids[i])...)
	}
	return all
}

const sample = "(ab|c)*(d(e|f)+|[^g]?)|(((h)i)j)k||l**"

// P303: Parse's answers are new memory: writing over one, its spare room too, is not seen in another.
func TestParseAnswersAreNew(t *testing.T) {
	want, _, _ := regex.Parse(sample)
	want = copied(want)
	one, _, _ := regex.Parse(sample)
	for _, l := range lists(&one) {
		for i := range l[:cap(l)] {
			l[:cap(l)][i] = set("#")
		}
	}
	reads(t, sample, want)
}

// P303: no two lists of one answer share memory.
func TestListsOfAnAnswerAreApart(t *testing.T) {
	x, _, _ := regex.Parse(sample)
	taken := map[*api.Re]int{}
	for i, l := range lists(&x) {
		l = l[:cap(l)]
		for j := range l {
			if other, ok := taken[&l[j]]; ok {
				t.Fatalf("the lists %d and %d share memory", i, other)
			}
			taken[&l[j]] = i
		}
	}
	if len(taken) < 20 {
		t.Errorf("only %d places", len(taken))
	}
}

// P303: what is handed in to Show stays as it is, its spare room too, and is not kept.
func TestHandedInStays(t *testing.T) {
	spare := set("#")
	roomy := func(kids ...api.Re) []api.Re {
		return append(kids, spare, spare)[:len(kids)]
	}
	x := api.Re{Op: api.RAlt, Kids: roomy(
		api.Re{Op: api.RCat, Kids: roomy(set("a"), api.Re{}, not("b"))},
		api.Re{Op: api.RStar, Kids: roomy(alt(set("c"), set("de")))},
	)}
	was := copied(x)
	text := regex.Show(x)
	if text != "a()[\x00-ac-\xff]|(c|[de])*" {
		t.Errorf("Show: %q", text)
	}
	if !same(x, was) {
		t.Errorf("now %v", x)
	}
	for _, l := range [][]api.Re{x.Kids, x.Kids[0].Kids, x.Kids[1].Kids} {
		for _, y := range l[len(l):cap(l)][:2] {
			if !same(y, spare) {
				t.Errorf("spare room: %v", y)
			}
		}
	}
	x.Kids[0] = set("z")
	if got := regex.Show(x); got != "z|(c|[de])*" {
		t.Errorf("Show: %q", got)
	}
	if got := regex.Show(was); got != text {
		t.Errorf("Show: %q", got)
	}
}

// P303: a call hangs on its arguments alone: errors and other texts ahead of it change nothing.
func TestCallsHangOnArgumentsAlone(t *testing.T) {
	want, _, _ := regex.Parse(sample)
	text := regex.Show(want)
	for _, s := range []string{"(", "[a-", "[^", strings.Repeat("(", 21), strings.Repeat("a", 201), "a|b", ""} {
		x, at, e := regex.Parse(s)
		regex.Show(x)
		reads(t, sample, want)
		shows(t, want, text)
		if again, atAgain, eAgain := regex.Parse(s); !same(again, x) || atAgain != at || eAgain != e {
			t.Errorf("Parse %q again: %v, %d, %v", s, again, atAgain, eAgain)
		}
	}
}
