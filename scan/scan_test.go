package scan_test

import (
	"fmt"
	"math"
	"regexp"
	"slices"
	"strings"
	"sync"
	"testing"

	"undergrowth/api"
	"undergrowth/dfa"
	"undergrowth/posit"
	"undergrowth/regex"
	"undergrowth/scan"
)

// of is the automaton of patterns.
func of(t *testing.T, l ...string) api.DFA {
	t.Helper()
	var places []api.Posits
	for _, s := range l {
		x, at, e := regex.Parse(s)
		if e != api.OK {
			t.Fatalf("Parse %q: %d, %v", s, at, e)
		}
		p, e := posit.Of(x)
		if e != api.OK {
			t.Fatalf("Of %q: %v", s, e)
		}
		places = append(places, p)
	}
	d, e := dfa.Of(places)
	if e != api.OK {
		t.Fatalf("Of %q: %v", l, e)
	}
	return d
}

// row is a state's: the bytes of s lead to a state, the others nowhere.
func row(to int, s string) []int {
	l := slices.Repeat([]int{-1}, 256)
	for i := range len(s) {
		l[s[i]] = to
	}
	return l
}

// answer is what Next tells: the rule, how long the row is, how many bytes were looked at.
type answer struct{ rule, long, look int }

func next(d api.DFA, b string, at int) answer {
	rule, long, look := scan.Next(d, []byte(b), at)
	return answer{rule, long, look}
}

// byRun is what Next should tell from 0 on, by asking chapter 5's Run of each beginning of b.
func byRun(d api.DFA, b string) answer {
	a := answer{-1, 0, len(b) + 1}
	for n := 1; n <= len(b); n++ {
		rule, ok := dfa.Run(d, []byte(b[:n]))
		if !ok {
			a.look = n
			return a
		}
		if rule >= 0 {
			a.rule, a.long = rule, n
		}
	}
	return a
}

// P601: rows of all kinds.
func TestNext(t *testing.T) {
	words := []string{"if", "[a-z]+", "[0-9]+(\\.[0-9]+)?", "==?", "\"[^\"\n]*\"", "/\\*([^*]|\\*+[^*/])*\\*+/|/"}
	for _, x := range []struct {
		l    []string
		b    string
		at   int
		want answer
	}{
		{words, "if", 0, answer{0, 2, 3}},
		{words, "if ", 0, answer{0, 2, 3}},
		{words, "ifs ", 0, answer{1, 3, 4}},
		{words, "i", 0, answer{1, 1, 2}},
		{words, "iif", 0, answer{1, 3, 4}},
		{words, "iif", 1, answer{0, 2, 3}},
		{words, "=", 0, answer{3, 1, 2}},
		{words, "==", 0, answer{3, 2, 3}},
		// no byte can come behind two of them: the third one is looked at all the same
		{words, "===", 0, answer{3, 2, 3}},
		{words, "===", 1, answer{3, 2, 3}},
		{words, "===", 2, answer{3, 1, 2}},
		// what was looked at in vain counts, too
		{words, "12.5", 0, answer{2, 4, 5}},
		{words, "12.", 0, answer{2, 2, 4}},
		{words, "12..", 0, answer{2, 2, 4}},
		{words, "12.x", 0, answer{2, 2, 4}},
		{words, "\"ab\"c", 0, answer{4, 4, 5}},
		{words, "\"ab", 0, answer{-1, 0, 4}},
		{words, "\"ab\n\"", 0, answer{-1, 0, 4}},
		{words, "/*a*/", 0, answer{5, 5, 6}},
		{words, "/*a**/*/", 0, answer{5, 6, 7}},
		{words, "/*a* 12 /", 0, answer{5, 1, 10}},
		{words, "/ *a*/", 0, answer{5, 1, 2}},
		// no rule
		{words, "?", 0, answer{-1, 0, 1}},
		{words, "?if", 0, answer{-1, 0, 1}},
		{words, "if?", 2, answer{-1, 0, 1}},
		{words, "\x00", 0, answer{-1, 0, 1}},
		{words, "\xff\xff", 1, answer{-1, 0, 1}},
		// no text
		{words, "", 0, answer{-1, 0, 1}},
		{words, "if", 2, answer{-1, 0, 1}},
		// a row of no bytes is none, also where it is accepted
		{[]string{"a*"}, "", 0, answer{-1, 0, 1}},
		{[]string{"a*"}, "b", 0, answer{-1, 0, 1}},
		{[]string{"a*"}, "aab", 0, answer{0, 2, 3}},
		{[]string{"a*"}, "aab", 2, answer{-1, 0, 1}},
		{[]string{"", "(ab)+"}, "a", 0, answer{-1, 0, 2}},
		{[]string{"", "(ab)+"}, "aba", 0, answer{1, 2, 4}},
		// the longest one, whatever rules are come to on the way; of one length the first rule
		{[]string{"abc", "a", "ab"}, "abc", 0, answer{0, 3, 4}},
		{[]string{"abc", "a", "ab"}, "abd", 0, answer{2, 2, 3}},
		{[]string{"abc", "a", "ab"}, "ad", 0, answer{1, 1, 2}},
		{[]string{"a", "a", "a+"}, "a", 0, answer{0, 1, 2}},
		{[]string{"a", "a", "a+"}, "aa", 0, answer{2, 2, 3}},
		{[]string{"a+", "aa"}, "aa", 0, answer{0, 2, 3}},
		{[]string{"a", "abcde", "abc"}, "abcdf", 0, answer{2, 3, 5}},
		{[]string{"a", "abcde", "ab"}, "abcd", 0, answer{2, 2, 5}},
		// what can't be taken any more is not looked at
		{[]string{"a[^\x00-\xff]b|a"}, "abb", 0, answer{0, 1, 2}},
		{[]string{"ab[^\x00-\xff]"}, "abb", 0, answer{-1, 0, 1}},
		// all bytes
		{[]string{"(.|\n)*"}, "\x00\n\x7f\x80\xff", 0, answer{0, 5, 6}},
		{[]string{"[\x00\xff]+"}, "\xff\x00\x01", 0, answer{0, 2, 3}},
		{[]string{".+"}, "\xff\x00\n", 0, answer{0, 2, 3}},
		{nil, "a", 0, answer{-1, 0, 1}},
		{nil, "", 0, answer{-1, 0, 1}},
	} {
		if got := next(of(t, x.l...), x.b, x.at); got != x.want {
			t.Errorf("%q: Next of %q at %d: %v; want %v", x.l, x.b, x.at, got, x.want)
		}
	}
}

// P601: the place is cut to the text.
func TestPlaces(t *testing.T) {
	d := of(t, "ab", "[a-c]+")
	const b = "ab?abc"
	for at, want := range []answer{{0, 2, 3}, {1, 1, 2}, {-1, 0, 1}, {1, 3, 4}, {1, 2, 3}, {1, 1, 2}, {-1, 0, 1}} {
		if got := next(d, b, at); got != want {
			t.Errorf("Next at %d: %v; want %v", at, got, want)
		}
	}
	for _, at := range []int{-1, -2, -7, -1 << 40, math.MinInt32, math.MinInt, math.MinInt + 1} {
		if got := next(d, b, at); got != (answer{0, 2, 3}) {
			t.Errorf("Next at %d: %v", at, got)
		}
	}
	for _, at := range []int{7, 8, 13, 1 << 40, math.MaxInt32, math.MaxInt, math.MaxInt - 1} {
		if got := next(d, b, at); got != (answer{-1, 0, 1}) {
			t.Errorf("Next at %d: %v", at, got)
		}
	}
	for _, at := range []int{math.MinInt, -1, 0, 1, math.MaxInt} {
		if rule, long, look := scan.Next(d, nil, at); rule != -1 || long != 0 || look != 1 {
			t.Errorf("Next of nil at %d: %d, %d, %d", at, rule, long, look)
		}
	}
}

// P601: what is ahead of the place, and behind what was looked at, is not asked; the spare room behind the text is not, either.
func TestWhatIsAsked(t *testing.T) {
	d := of(t, "ab", "[a-c]+;?", "c(de)*", "=.*=")
	for _, b := range all("abcde;=\n", 4) {
		want := next(d, b, 0)
		for _, ahead := range []string{"a", "=", "\n", "cde"} {
			if got := next(d, ahead+b, len(ahead)); got != want {
				t.Fatalf("Next of %q behind %q: %v; want %v", b, ahead, got, want)
			}
		}
		roomy := []byte(b + "abc;=de=")[:len(b)]
		if rule, long, look := scan.Next(d, roomy, 0); (answer{rule, long, look}) != want {
			t.Fatalf("Next of %q with spare room: %d, %d, %d; want %v", b, rule, long, look, want)
		}
		if want.look > len(b) {
			continue
		}
		for _, behind := range []string{"", "a", ";", "de=", "\n"} {
			if got := next(d, b[:want.look]+behind, 0); got != want {
				t.Fatalf("Next of %q, then %q: %v; want %v", b[:want.look], behind, got, want)
			}
		}
	}
}

// all is all texts of these letters, of up to so many.
func all(letters string, most int) []string {
	l := []string{""}
	for from := 0; most > 0; most-- {
		to := len(l)
		for _, s := range l[from:to] {
			for i := range len(letters) {
				l = append(l, s+letters[i:i+1])
			}
		}
		from = to
	}
	return l
}

// P601: automata of patterns, at all places of all short texts, by package regexp.
func TestNextByRegexp(t *testing.T) {
	found, texts := 0, all("abc\n", 5)
	for _, l := range [][]string{
		{"a", "b", "c"},
		{"(a|b)*abb", "[ab]+", "c"},
		{"ab*c?", "(ab)+", "a.c"},
		{"", "a?b?c?", "bc*|abc"},
		{"aab|b.*c", "a|ba?", "[^a]"},
		{"(aa)*", "(aaa)+", "(b(c|b+)a)*"},
		{".+\n", "abc", "(a|ab)(c|bcb)"},
		{"[^b\n]*b", "a(.|\n)*c", "(\n\n)+"},
	} {
		d := of(t, l...)
		var rules []*regexp.Regexp
		for _, s := range l {
			x := regexp.MustCompile("^(?:" + s + ")")
			x.Longest()
			rules = append(rules, x)
		}
		for _, b := range texts {
			for at := range len(b) + 1 {
				want := answer{rule: -1}
				for i, x := range rules {
					if n := len(x.FindString(b[at:])); n > want.long {
						want.rule, want.long = i, n
					}
				}
				got := next(d, b, at)
				want.look = byRun(d, b[at:]).look
				if got != want {
					t.Fatalf("%q: Next of %q at %d: %v; want %v", l, b, at, got, want)
				}
				found += min(got.long, 1)
			}
		}
	}
	if found < 10000 {
		t.Errorf("only %d rows found", found)
	}
}

// P601: a state that there is not is as nowhere, and an Accept below 0 is none, whatever is handed in.
func TestAnyAutomaton(t *testing.T) {
	a, b := row(1, "a"), row(0, "b")
	for _, x := range []struct {
		what string
		d    api.DFA
		b    string
		want answer
	}{
		{"none", api.DFA{}, "", answer{-1, 0, 1}},
		{"none", api.DFA{}, "a", answer{-1, 0, 1}},
		{"empty lists", api.DFA{Next: [][]int{}, Accept: []int{}}, "ab", answer{-1, 0, 1}},
		{"no Accept", api.DFA{Next: [][]int{a, b}}, "ab", answer{-1, 0, 1}},
		{"no Accept", api.DFA{Next: [][]int{a, b}}, "", answer{-1, 0, 1}},
		{"no Next", api.DFA{Accept: []int{1, 2}}, "ab", answer{-1, 0, 1}},
		{"fewer Accepts", api.DFA{Next: [][]int{a, b}, Accept: []int{3}}, "ab", answer{-1, 0, 1}},
		{"fewer rows", api.DFA{Next: [][]int{a}, Accept: []int{3, 4}}, "ab", answer{-1, 0, 1}},
		{"fewer rows, come to itself", api.DFA{Next: [][]int{row(0, "a")}, Accept: []int{3, 4}}, "aab", answer{3, 2, 3}},
		{"as many", api.DFA{Next: [][]int{a, b}, Accept: []int{3, 4}}, "", answer{-1, 0, 1}},
		{"as many", api.DFA{Next: [][]int{a, b}, Accept: []int{3, 4}}, "a", answer{4, 1, 2}},
		{"as many", api.DFA{Next: [][]int{a, b}, Accept: []int{3, 4}}, "ab", answer{3, 2, 3}},
		{"as many", api.DFA{Next: [][]int{a, b}, Accept: []int{3, 4}}, "abaa", answer{4, 3, 4}},
		{"as many", api.DFA{Next: [][]int{a, b}, Accept: []int{3, 4}}, "b", answer{-1, 0, 1}},
		{"one beyond", api.DFA{Next: [][]int{row(2, "a"), b}, Accept: []int{3, 4}}, "ab", answer{-1, 0, 1}},
		{"one beyond, further on", api.DFA{Next: [][]int{a, row(2, "b")}, Accept: []int{3, 4}}, "abb", answer{4, 1, 2}},
		{"far beyond", api.DFA{Next: [][]int{row(math.MaxInt, "a")}, Accept: []int{3}}, "aa", answer{-1, 0, 1}},
		{"below nowhere", api.DFA{Next: [][]int{row(-2, "a")}, Accept: []int{3}}, "aa", answer{-1, 0, 1}},
		{"far below", api.DFA{Next: [][]int{row(math.MinInt, "a")}, Accept: []int{3}}, "aa", answer{-1, 0, 1}},
		{"a nil row", api.DFA{Next: [][]int{nil}, Accept: []int{3}}, "\x00", answer{-1, 0, 1}},
		{"a nil row, further on", api.DFA{Next: [][]int{a, nil}, Accept: []int{3, 4}}, "a\x00", answer{4, 1, 2}},
		{"a short row", api.DFA{Next: [][]int{a[:98], b}, Accept: []int{3, 4}}, "ab", answer{3, 2, 3}},
		{"a short row", api.DFA{Next: [][]int{a[:98], b}, Accept: []int{3, 4}}, "b", answer{-1, 0, 1}},
		{"a shorter row", api.DFA{Next: [][]int{a[:97], b}, Accept: []int{3, 4}}, "ab", answer{-1, 0, 1}},
		{"a long row", api.DFA{Next: [][]int{append(row(0, "\xff"), 0, 0)}, Accept: []int{3}}, "\xff\xff", answer{3, 2, 3}},
		{"less than none", api.DFA{Next: [][]int{a, b}, Accept: []int{-2, math.MinInt}}, "abb", answer{-1, 0, 3}},
		{"none, then one", api.DFA{Next: [][]int{a, b}, Accept: []int{0, -1}}, "ab", answer{0, 2, 3}},
		{"none, then one", api.DFA{Next: [][]int{a, b}, Accept: []int{0, -5}}, "aba", answer{0, 2, 4}},
		{"any rule", api.DFA{Next: [][]int{a, b}, Accept: []int{math.MaxInt, 41}}, "a", answer{41, 1, 2}},
		{"any rule", api.DFA{Next: [][]int{a, b}, Accept: []int{math.MaxInt, 41}}, "ab", answer{math.MaxInt, 2, 3}},
		// of a longer row the rule is told, be it above the one that was come to ahead of it, or below
		{"a rule below", api.DFA{Next: [][]int{a, b}, Accept: []int{0, 9}}, "ab", answer{0, 2, 3}},
		{"a rule above", api.DFA{Next: [][]int{a, b}, Accept: []int{9, 0}}, "ab", answer{9, 2, 3}},
		// states from which nothing is accepted are looked at as others are
		{"a circle of none", api.DFA{Next: [][]int{row(0, "a")}, Accept: []int{-1}}, "aaa", answer{-1, 0, 4}},
		{"a circle of none", api.DFA{Next: [][]int{row(0, "a")}, Accept: []int{-1}}, "aab", answer{-1, 0, 3}},
	} {
		if got := next(x.d, x.b, 0); got != x.want {
			t.Errorf("%s: Next of %q: %v; want %v", x.what, x.b, got, x.want)
		}
		if got := next(x.d, "ab"+x.b, 2); got != x.want {
			t.Errorf("%s: Next of %q at 2: %v; want %v", x.what, "ab"+x.b, got, x.want)
		}
	}
}

// chance is a row of numbers that is always the same.
type chance uint32

func (c *chance) below(n int) int {
	*c = *c*1664525 + 1013904223
	return int(*c>>8) % n
}

// dfa makes an automaton that dfa.Of need not tell: rows that are too short, more or fewer Accepts than rows, numbers of nothing.
func (c *chance) dfa() api.DFA {
	var d api.DFA
	for range c.below(5) {
		r := row(-1, "")[:[]int{0, 'a', 'b', 'c', 'd', 256, 256, 256}[c.below(8)]]
		for i := 'a'; i <= 'c' && int(i) < len(r); i++ {
			r[i] = []int{0, 1, 2, 3, 0, 1, 2, 4, -1, -2, math.MinInt, math.MaxInt}[c.below(12)]
		}
		d.Next = append(d.Next, r)
	}
	for range len(d.Next) + c.below(3) - 1 {
		d.Accept = append(d.Accept, []int{0, 1, 2, -1, -1, -2, math.MinInt, math.MaxInt}[c.below(8)])
	}
	return d
}

// P601: any automata, by Run of each beginning.
func TestAnyAutomatonByRun(t *testing.T) {
	c := chance(1)
	texts := all("abc", 5)
	looks := map[int]int{}
	longs := map[int]int{}
	for n := range 2000 {
		d := c.dfa()
		for _, b := range texts {
			got, want := next(d, b, 0), byRun(d, b)
			if got != want {
				t.Fatalf("automaton %d: Next of %q: %v; want %v", n, b, got, want)
			}
			looks[got.look]++
			longs[got.long]++
		}
	}
	for n := range 6 {
		if looks[n+1] < 1000 || longs[n] < 1000 {
			t.Errorf("only %d looks of %d, %d rows of %d", looks[n+1], n+1, longs[n], n)
		}
	}
}

// P601: long texts.
func TestLongTexts(t *testing.T) {
	const n = 1 << 20
	d := of(t, "a+b", "a", "(cd)+")
	a := strings.Repeat("a", n)
	for _, x := range []struct {
		b    string
		at   int
		want answer
	}{
		{a, 0, answer{1, 1, n + 1}},
		{a, n - 1, answer{1, 1, 2}},
		{a, n, answer{-1, 0, 1}},
		{a + "b", 0, answer{0, n + 1, n + 2}},
		{a + "b", n / 2, answer{0, n/2 + 1, n/2 + 2}},
		{a + "bb", 0, answer{0, n + 1, n + 2}},
		{a + "c", 0, answer{1, 1, n + 1}},
		{a + strings.Repeat("cd", n) + "c", n, answer{2, 2 * n, 2*n + 2}},
	} {
		if got := next(d, x.b, x.at); got != x.want {
			t.Errorf("Next of %d bytes at %d: %v; want %v", len(x.b), x.at, got, x.want)
		}
	}
}

// roomy is l in other memory, with spare room behind it that is filled with spare.
func roomy[T any](l []T, spare T) []T { return append(slices.Clone(l), spare, spare)[:len(l)] }

// P602: what is handed in stays as it is, its spare room too, and is not kept.
func TestHandedInStays(t *testing.T) {
	d := api.DFA{
		Next:   roomy([][]int{roomy(row(1, "ab"), -7), roomy(row(0, "a"), -7)}, []int{-7}),
		Accept: roomy([]int{-9, 5}, -7),
	}
	b := roomy([]byte("?abaab"), 'a')
	was := fmt.Sprint(d.Next[:4], d.Accept[:4], d.Next[0][:258], d.Next[1][:258], b[:8])
	for range 2 {
		for at, want := range []answer{{-1, 0, 1}, {5, 1, 2}, {5, 3, 4}, {5, 3, 4}, {5, 1, 2}, {5, 1, 2}, {-1, 0, 1}} {
			if rule, long, look := scan.Next(d, b, at); (answer{rule, long, look}) != want {
				t.Errorf("Next at %d: %d, %d, %d; want %v", at, rule, long, look, want)
			}
		}
	}
	if fmt.Sprint(d.Next[:4], d.Accept[:4], d.Next[0][:258], d.Next[1][:258], b[:8]) != was {
		t.Error("what is handed in has turned")
	}
	d.Next[0]['a'], d.Accept[0], b[2] = 0, 8, 'a'
	if rule, long, look := scan.Next(d, b, 1); rule != 5 || long != 5 || look != 6 {
		t.Errorf("what was handed in ahead of this is asked: %d, %d, %d", rule, long, look)
	}
}

// P602: a call hangs on its arguments alone: other calls ahead of it, and at the same time, change nothing.
func TestCallsHangOnArgumentsAlone(t *testing.T) {
	d, other := of(t, "if", "[a-z]+", " +"), of(t, "[a-z ]*")
	const b = "if ifs  so"
	want := []answer{{0, 2, 3}, {1, 1, 2}, {2, 1, 2}, {1, 3, 4}, {1, 2, 3}, {1, 1, 2}, {2, 2, 3}, {2, 1, 2}, {1, 2, 3}, {1, 1, 2}, {-1, 0, 1}}
	var group sync.WaitGroup
	for range 8 {
		group.Go(func() {
			for range 100 {
				for at := range want {
					if got := next(d, b, at); got != want[at] {
						t.Errorf("Next at %d: %v; want %v", at, got, want[at])
					}
					if got := next(other, b, at); got.long != len(b)-at {
						t.Errorf("Next of another automaton at %d: %v", at, got)
					}
					next(api.DFA{}, b, at)
				}
			}
		})
	}
	group.Wait()
}
