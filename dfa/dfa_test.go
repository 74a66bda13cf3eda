package dfa_test

import (
	"fmt"
	"math"
	"slices"
	"strings"
	"sync"
	"testing"

	"undergrowth/api"
	"undergrowth/dfa"
	"undergrowth/posit"
	"undergrowth/regex"
)

// of is the places of patterns.
func of(t *testing.T, l ...string) []api.Posits {
	t.Helper()
	var out []api.Posits
	for _, s := range l {
		x, at, e := regex.Parse(s)
		if e != api.OK {
			t.Fatalf("Parse %q: %d, %v", s, at, e)
		}
		p, e := posit.Of(x)
		if e != api.OK {
			t.Fatalf("Of %q: %v", s, e)
		}
		out = append(out, p)
	}
	return out
}

// set is the bytes of s.
func set(s string) [4]uint64 {
	var x [4]uint64
	for i := range len(s) {
		x[s[i]/64] |= 1 << (s[i] % 64)
	}
	return x
}

// chain is a pattern of n places, each of which takes the byte c behind the one ahead of it.
func chain(n int, c string) api.Posits {
	p := api.Posits{First: []int{0}, Last: []int{n - 1}}
	for i := range n {
		p.Sets = append(p.Sets, set(c))
		p.Follow = append(p.Follow, []int{i + 1})
	}
	return p
}

// ring is a chain any times.
func ring(n int, c string) api.Posits {
	p := chain(n, c)
	p.Null = true
	p.Follow[n-1] = []int{0}
	return p
}

// letter tells a byte.
func letter(c int) string {
	if c > ' ' && c < 127 {
		return string(rune(c))
	}
	return fmt.Sprintf("#%d", c)
}

// told tells an automaton as one text: of each state where runs of bytes lead, and what it accepts: "a-c:1 d:2 =0 | ..".
func told(d api.DFA) string {
	var states []string
	for i, row := range d.Next {
		var l []string
		for from := 0; from < len(row); {
			to := from
			for to+1 < len(row) && row[to+1] == row[from] {
				to++
			}
			if row[from] != -1 {
				s := letter(from)
				if to > from {
					s += "-" + letter(to)
				}
				l = append(l, fmt.Sprintf("%s:%d", s, row[from]))
			}
			from = to + 1
		}
		if d.Accept[i] != -1 {
			l = append(l, fmt.Sprintf("=%d", d.Accept[i]))
		}
		states = append(states, strings.Join(l, " "))
	}
	return strings.Join(states, " | ")
}

// made looks whether Of tells an automaton whose rows and Accepts are as they should be, whatever it takes.
func made(t *testing.T, what string, l []api.Posits) api.DFA {
	t.Helper()
	d, e := dfa.Of(l)
	if e != api.OK || len(d.Next) == 0 || len(d.Accept) != len(d.Next) {
		t.Fatalf("%s: %d states, %d Accepts, %v", what, len(d.Next), len(d.Accept), e)
	}
	if e := dfa.Fits(l); e != api.OK {
		t.Fatalf("%s: Fits: %v", what, e)
	}
	for i, row := range d.Next {
		if len(row) != 256 {
			t.Fatalf("%s: Next %d has %d numbers", what, i, len(row))
		}
		for c, to := range row {
			if to < -1 || to >= len(d.Next) {
				t.Fatalf("%s: %d leads from %d to %d of %d", what, c, i, to, len(d.Next))
			}
		}
		if d.Accept[i] < -1 || d.Accept[i] >= len(l) {
			t.Fatalf("%s: state %d accepts %d", what, i, d.Accept[i])
		}
	}
	return d
}

// is looks whether Of tells an automaton of that many states.
func is(t *testing.T, what string, states int, l ...api.Posits) api.DFA {
	t.Helper()
	d := made(t, what, l)
	if len(d.Next) != states {
		t.Errorf("%s: %d states, want %d", what, len(d.Next), states)
	}
	return d
}

// refuses looks whether Of tells ErrLong, and nothing beside.
func refuses(t *testing.T, what string, l ...api.Posits) {
	t.Helper()
	if d, e := dfa.Of(l); e != api.ErrLong || d.Next != nil || d.Accept != nil {
		t.Errorf("%s: %d states, %d Accepts, %v", what, len(d.Next), len(d.Accept), e)
	}
	if e := dfa.Fits(l); e != api.ErrLong {
		t.Errorf("%s: Fits: %v", what, e)
	}
}

// P501: the whole automaton, of all bytes.
func TestOf(t *testing.T) {
	for _, x := range []struct {
		l    []string
		want string
	}{
		{nil, ""},
		{[]string{""}, "=0"},
		{[]string{"()*"}, "=0"},
		{[]string{"a"}, "a:1 | =0"},
		{[]string{"abc"}, "a:1 | b:2 | c:3 | =0"},
		{[]string{"a|b|c"}, "a-c:1 | =0"},
		{[]string{"a?"}, "a:1 =0 | =0"},
		{[]string{"a*"}, "a:0 =0"},
		{[]string{"a+"}, "a:1 | a:1 =0"},
		{[]string{"."}, "#0-#9:1 #11-#255:1 | =0"},
		{[]string{"(.|\n)*"}, "#0-#255:0 =0"},
		{[]string{"[^a]b"}, "#0-`:1 b-#255:1 | b:2 | =0"},
		{[]string{"[\x00\xff]"}, "#0:1 #255:1 | =0"},
		// what is the same behind two rows is one state
		{[]string{"ab|cb"}, "a:1 c:1 | b:2 | =0"},
		{[]string{"(a|b)*abb"}, "a:1 b:0 | a:1 b:2 | a:1 b:3 | a:1 b:0 =0"},
		{[]string{"(a*b)*"}, "a:1 b:0 =0 | a:1 b:0"},
		{[]string{"(a*)*b?"}, "a:0 b:1 =0 | =0"},
		{[]string{"(aa)*|(aaa)*"}, "a:1 =0 | a:2 | a:3 =0 | a:4 =0 | a:5 =0 | a:0"},
		{[]string{"(a|b)*a(a|b)(a|b)|(a|b)*"}, "a-b:0 =0"},
		// the first pattern is told, wherever it begins
		{[]string{"a", "a"}, "a:1 | =0"},
		{[]string{"", ""}, "=0"},
		{[]string{"a", ""}, "a:1 =1 | =0"},
		{[]string{"a", "b"}, "a:1 b:2 | =0 | =1"},
		{[]string{"b", "a"}, "a:1 b:2 | =1 | =0"},
		{[]string{"if", "[a-z]+"}, "a-h:1 i:2 j-z:1 | a-z:1 =1 | a-e:1 f:3 g-z:1 =1 | a-z:1 =0"},
		{[]string{"[a-z]+", "if"}, "a-z:1 | a-z:1 =0"},
		{[]string{"ab", "a|b", "[^a]"}, "#0-`:1 a:2 b:3 c-#255:1 | =2 | b:4 =1 | =1 | =0"},
		{[]string{"a*", "a*b*"}, "a:0 b:1 =0 | b:1 =1"},
		{[]string{"<", "<=", "=+", "<=>"}, "<:1 =:2 | =:3 =0 | =:2 =2 | >:4 =1 | =3"},
		// a row that no pattern takes, whatever comes behind it
		{[]string{"[^\x00-\xff]"}, ""},
		{[]string{"a[^\x00-\xff]"}, ""},
		{[]string{"a[^\x00-\xff]", ""}, "=1"},
		{[]string{"a[^\x00-\xff]b|c"}, "c:1 | =0"},
		{[]string{"a(b*[^\x00-\xff])+|ac"}, "a:1 | c:2 | =0"},
	} {
		if got := told(made(t, strings.Join(x.l, "  "), of(t, x.l...))); got != x.want {
			t.Errorf("Of %q: %s; want %s", x.l, got, x.want)
		}
	}
	is(t, "nothing", 1)
	is(t, "no places", 1, api.Posits{}, api.Posits{})
}

// P501: states are numbered state by state, byte by byte, whatever order the patterns are in.
func TestNumbers(t *testing.T) {
	const want = "a:1 b:2 c:3 d:4 | x:5 | x:6 | x:7 | x:8 | =%d | =%d | =%d | =%d"
	l := []string{"ax", "bx", "cx", "dx"}
	for range 24 {
		at := func(s string) int { return slices.Index(l, s) }
		if got, want := told(made(t, "four", of(t, l...))), fmt.Sprintf(want, at("ax"), at("bx"), at("cx"), at("dx")); got != want {
			t.Errorf("Of %q: %s; want %s", l, got, want)
		}
		// the next order of the four
		k := len(l) - 2
		for k >= 0 && l[k] > l[k+1] {
			k--
		}
		if k >= 0 {
			m := len(l) - 1
			for l[m] < l[k] {
				m--
			}
			l[k], l[m] = l[m], l[k]
		}
		slices.Reverse(l[k+1:])
	}
	// a row of all bytes, falling: each leads to a state of its own
	var back []api.Posits
	for i := range 39 {
		p := chain(3, "x")
		p.Sets[0] = set(string([]byte{byte(255 - 6*i)}))
		p.Sets[1] = set(string([]byte{byte(6 * i)}))
		back = append(back, p)
	}
	d := is(t, "falling", 1+3*39, back...)
	for i := range 39 {
		first, second := 1+i, 40+i
		if d.Next[0][27+6*i] != first || d.Next[first][6*(38-i)] != second || d.Accept[d.Next[second]['x']] != 38-i {
			t.Errorf("falling: byte %d", 27+6*i)
		}
	}
}

// ways is where patterns can be behind a row of bytes, by the chapters' words alone.
type ways struct {
	l     []api.Posits
	begun bool
	at    [][]int
}

func (w ways) step(c byte) ways {
	next := ways{l: w.l, begun: true, at: make([][]int, len(w.l))}
	for k, p := range w.l {
		var from []int
		if !w.begun {
			from = p.First
		} else {
			for _, i := range w.at[k] {
				if i < len(p.Follow) {
					from = append(from, p.Follow[i]...)
				}
			}
		}
		for i, s := range p.Sets {
			if regex.Has(s, c) && slices.Contains(from, i) {
				next.at[k] = append(next.at[k], i)
			}
		}
	}
	return next
}

// first is the first pattern that takes the row.
func (w ways) first() int {
	for k, p := range w.l {
		if !w.begun && p.Null || slices.ContainsFunc(w.at[k], func(i int) bool { return slices.Contains(p.Last, i) }) {
			return k
		}
	}
	return -1
}

// none tells whether no place can have taken the last byte of a row.
func (w ways) none() bool {
	return w.begun && !slices.ContainsFunc(w.at, func(l []int) bool { return len(l) > 0 })
}

// setsOf counts the sets of places that are come to, the beginning, too. It looks whether d tells of all rows of
// these bytes, however long, what the patterns say.
func setsOf(t *testing.T, what string, l []api.Posits, d api.DFA, bytes string) int {
	t.Helper()
	type pair struct {
		ways ways
		at   int
	}
	name := func(p pair) string { return fmt.Sprint(p.ways.begun, p.ways.at, p.at) }
	list := []pair{{ways{l: l, at: make([][]int, len(l))}, 0}}
	seen := map[string]bool{name(list[0]): true}
	sets := map[string]bool{}
	for i := 0; i < len(list); i++ {
		p := list[i]
		accept := -1
		if p.at != -1 {
			accept = d.Accept[p.at]
		}
		if want := p.ways.first(); accept != want {
			t.Fatalf("%s: behind a row is accepted %d; want %d", what, accept, want)
		}
		if p.ways.none() {
			if p.at != -1 {
				t.Fatalf("%s: a row that is at no place leads to %d", what, p.at)
			}
			continue
		}
		sets[fmt.Sprint(p.ways.begun, p.ways.at)] = true
		for k := range len(bytes) {
			to := -1
			if p.at != -1 {
				to = d.Next[p.at][bytes[k]]
			}
			q := pair{p.ways.step(bytes[k]), to}
			if !seen[name(q)] {
				seen[name(q)] = true
				list = append(list, q)
			}
		}
	}
	return len(sets)
}

// least looks whether d has no state too many, and numbers them as they are come to.
func least(t *testing.T, what string, d api.DFA) {
	t.Helper()
	next := 1
	for i, row := range d.Next {
		if i >= next {
			t.Fatalf("%s: state %d is not come to", what, i)
		}
		for _, to := range row {
			if to > next {
				t.Fatalf("%s: state %d is come to ahead of %d", what, to, next)
			} else if to == next {
				next++
			}
		}
	}
	n := len(d.Next)
	accept := func(i int) int {
		if i == n {
			return -1
		}
		return d.Accept[i]
	}
	// n stands for nowhere
	step := func(i, c int) int {
		if i == n || d.Next[i][c] == -1 {
			return n
		}
		return d.Next[i][c]
	}
	apart := make([][]bool, n+1)
	for i := range apart {
		apart[i] = make([]bool, n+1)
		for k := range apart[i] {
			apart[i][k] = accept(i) != accept(k)
		}
	}
	for more := true; more; {
		more = false
		for i := range apart {
			for k := range apart[i] {
				for c := 0; c < 256 && !apart[i][k]; c++ {
					if apart[step(i, c)][step(k, c)] {
						apart[i][k], more = true, true
					}
				}
			}
		}
	}
	for i := range apart {
		for k := range i {
			if !apart[i][k] && (i < n || k > 0 || n > 1) {
				t.Fatalf("%s: states %d and %d (%d is nowhere) are one", what, k, i, n)
			}
		}
	}
}

// chance is a row of numbers that is always the same.
type chance uint32

func (c *chance) below(n int) int {
	*c = *c*1664525 + 1013904223
	return int(*c>>8) % n
}

// grow makes a pattern of up to so many levels of the bytes a, b and c.
func (c *chance) grow(levels int) api.Re {
	op := c.below(7)
	if levels <= 1 && op > api.RSet {
		op = api.RSet
	}
	x := api.Re{Op: op}
	switch op {
	case api.RSet:
		x.Set = set([]string{"a", "b", "c", "ab", "bc", "abc", ""}[c.below(7)])
	case api.RCat, api.RAlt:
		for range c.below(4) {
			x.Kids = append(x.Kids, c.grow(levels-1))
		}
	case api.RStar, api.RPlus, api.ROpt:
		x.Kids = append(x.Kids, c.grow(levels-1))
	}
	return x
}

// posits makes some that posit.Of need not tell: with numbers of no place, twice the same ones, falling ones, and more or fewer of Follow.
func (c *chance) posits() api.Posits {
	list := func() []int {
		var l []int
		for range c.below(5) {
			l = append(l, []int{0, 1, 2, 3, 0, 1, 2, 4, -1, math.MinInt, math.MaxInt, 150, 63, 64}[c.below(14)])
		}
		return l
	}
	p := api.Posits{Null: c.below(4) == 0, First: list(), Last: list()}
	for range c.below(6) {
		p.Sets = append(p.Sets, set([]string{"", "a", "b", "ab", "c"}[c.below(5)]))
	}
	for range c.below(7) {
		p.Follow = append(p.Follow, list())
	}
	return p
}

// same tells whether two automata are the same.
func same(d, e api.DFA) bool {
	return slices.Equal(d.Accept, e.Accept) && slices.EqualFunc(d.Next, e.Next, func(a, b []int) bool { return slices.Equal(a, b) })
}

// P501: many patterns: what each row of bytes is told, and that no state is too many.
func TestOfAllRows(t *testing.T) {
	var c chance
	sizes := map[int]int{}
	for n := range 6000 {
		var l []api.Posits
		for range 1 + c.below(4) {
			p, e := posit.Of(c.grow(5))
			if e != api.OK {
				t.Fatal(e)
			}
			l = append(l, p)
		}
		what := fmt.Sprint("patterns ", n)
		d := made(t, what, l)
		setsOf(t, what, l, d, "abc#")
		least(t, what, d)
		sizes[min(len(d.Next), 8)]++
	}
	for n := 1; n <= 8; n++ {
		if sizes[n] < 40 {
			t.Errorf("only %d automata of %d states", sizes[n], n)
		}
	}
}

// P501: any places: numbers of none are passed over, as posit.Takes does it.
func TestOfAnyPlaces(t *testing.T) {
	c := chance(1)
	states := 0
	for n := range 6000 {
		var l []api.Posits
		for range c.below(5) {
			l = append(l, c.posits())
		}
		what := fmt.Sprint("places ", n)
		d := made(t, what, l)
		setsOf(t, what, l, d, "abc#")
		least(t, what, d)
		states += len(d.Next)
		for _, b := range []string{"", "a", "b", "ab", "ba", "aab", "abab"} {
			want := slices.IndexFunc(l, func(p api.Posits) bool { return posit.Takes(p, []byte(b)) })
			if got, _ := dfa.Run(d, []byte(b)); got != want {
				t.Errorf("%s: %q is taken by %d; want %d", what, b, got, want)
			}
		}
	}
	if states < 5000 {
		t.Errorf("only %d states", states)
	}
}

// P501: as many patterns as may be, and one more.
func TestMostPatterns(t *testing.T) {
	is(t, "40 of nothing", 1, make([]api.Posits, 40)...)
	refuses(t, "41 of nothing", make([]api.Posits, 41)...)
	refuses(t, "many of nothing", make([]api.Posits, 100000)...)
	refuses(t, "41, and too many sets", append(make([]api.Posits, 40), chain(5000, "a"))...)
	var l []api.Posits
	states := 1
	for i := range 40 {
		l = append(l, ring(i+1, string([]byte{byte('A' + i)})))
		states += i + 1
	}
	d := is(t, "40 rings", states, l...)
	for i := range 40 {
		got, ok := dfa.Run(d, slices.Repeat([]byte{byte('A' + i)}, 3*(i+1)))
		if got != i || !ok {
			t.Errorf("40 rings: %d is told as %d, %v", i, got, ok)
		}
	}
	refuses(t, "40 rings and one", append(l, chain(1, "z"))...)
}

// P501: as many sets as may be, and one more: the beginning counts, the empty set does not.
func TestMostSets(t *testing.T) {
	is(t, "a chain", 2000, chain(1999, "a"))
	refuses(t, "a chain", chain(2000, "a"))
	refuses(t, "a long chain", chain(100000, "a"))
	is(t, "a ring", 1999, ring(1999, "a"))
	refuses(t, "a ring", ring(2000, "a"))
	refuses(t, "many sets, one state", of(t, "(a|b)*a"+strings.Repeat("(a|b)", 10)+"|(a|b)*")...)
	is(t, "half as many", 1024, of(t, "(a|b)*a"+strings.Repeat("(a|b)", 9))...)
	is(t, "half as many, one state", 1, of(t, "(a|b)*a"+strings.Repeat("(a|b)", 9)+"|(a|b)*")...)
	refuses(t, "sets without end, as good as", of(t, "(a|b)*a"+strings.Repeat(".", 140))...)
	refuses(t, "sets without end, as good as, one state", of(t, "(a|b)*a"+strings.Repeat(".", 140)+"|(.|\n)*")...)
	// a place that no row comes to does not count
	far := chain(1999, "a")
	far.Sets = append(far.Sets, chain(5000, "a").Sets...)
	far.Follow[1998] = nil
	is(t, "places behind none", 2000, far)
	cut := chain(5000, "a")
	cut.Sets[1999] = set("")
	cut.Last = []int{1998}
	is(t, "places behind one without bytes", 2000, cut)
	// two rows that are at the same places come to one set
	is(t, "one place of two bytes", 2000, append(of(t, "[xy]"), chain(1998, "a"))...)
	refuses(t, "two places", append(of(t, "x|y"), chain(1998, "a"))...)
	is(t, "two places of one byte", 2000, append(of(t, "x|x"), chain(1998, "a"))...)
}

// P501: sets from which nothing is taken any more count as others do, and lead nowhere.
func TestDeadSets(t *testing.T) {
	dead := func(n int) api.Posits {
		p := chain(n, "a")
		p.Last = nil
		return p
	}
	if d := is(t, "no last one", 1, dead(1999)); told(d) != "" {
		t.Errorf("no last one: %s", told(d))
	}
	refuses(t, "no last one", dead(2000))
	half := chain(1999, "a")
	half.Last = []int{999}
	d := is(t, "a last one between", 1001, half)
	if d.Next[1000]['a'] != -1 || d.Accept[1000] != 0 {
		t.Error("a last one between: it goes on behind it")
	}
	half = chain(2000, "a")
	half.Last = []int{0}
	refuses(t, "a last one at first", half)
	last := chain(1999, "a")
	last.Sets[1998] = set("")
	if d := is(t, "a last one without bytes", 1, last); told(d) != "" {
		t.Errorf("a last one without bytes: %s", told(d))
	}
	if d := is(t, "a dead one beside", 2, dead(1998), chain(1, "b")); told(d) != "b:1 | =1" {
		t.Errorf("a dead one beside: %s", told(d))
	}
	refuses(t, "a dead one beside", dead(1999), chain(1, "b"))
}

// P501: sets are of places of all patterns together.
func TestSetsOfAllPatterns(t *testing.T) {
	// rings that go side by side come to the least common multiple of their lengths
	is(t, "44 and 45", 1980, ring(44, "a"), ring(45, "a"))
	refuses(t, "43 and 47", ring(43, "a"), ring(47, "a"))
	is(t, "27 and 74", 1998, ring(27, "a"), ring(74, "a"))
	is(t, "1998 and one", 2000, ring(27, "a"), chain(1, "b"), ring(74, "a"))
	refuses(t, "1998 and two", ring(27, "a"), chain(1, "b"), ring(74, "a"), chain(1, "c"))
	refuses(t, "16 and 125", ring(16, "a"), ring(125, "a"))
	// one pattern many times over is at its places at the same time
	d := is(t, "40 chains", 2000, slices.Repeat([]api.Posits{chain(1999, "a")}, 40)...)
	if got, ok := dfa.Run(d, slices.Repeat([]byte{'a'}, 1999)); got != 0 || !ok {
		t.Errorf("40 chains: %d, %v", got, ok)
	}
	// places of the same number in two patterns are two
	if got := told(made(t, "same numbers", []api.Posits{chain(2, "a"), chain(2, "b")})); got != "a:1 b:2 | a:3 | b:4 | =0 | =1" {
		t.Errorf("same numbers: %s", got)
	}
	var l []api.Posits
	for i := range 20 {
		l = append(l, chain(100, string([]byte{byte('A' + i)})))
	}
	refuses(t, "20 of 100 places", l...)
	is(t, "19 of 100 places", 1901, l[:19]...)
	l[19] = chain(99, "z")
	is(t, "19 of 100 places and one of 99", 2000, l...)
}

// P501: many places, of many bytes, all of which are at work at the same time.
func TestManyPlaces(t *testing.T) {
	all := make([]int, 150)
	for i := range all {
		all[i] = i
	}
	var l []api.Posits
	for k := range 40 {
		p := api.Posits{First: all, Last: all}
		for i := range all {
			var s [4]uint64
			for c := range 256 {
				if (c*i+c*c*k)%257 < 100 {
					s[c/64] |= 1 << (c % 64)
				}
			}
			p.Sets = append(p.Sets, s)
			p.Follow = append(p.Follow, all)
		}
		l = append(l, p)
	}
	d := made(t, "many places", l)
	for c := range 256 {
		want := slices.IndexFunc(l, func(p api.Posits) bool { return posit.Takes(p, []byte{byte(c)}) })
		if got, ok := dfa.Run(d, []byte{byte(c)}); got != want || ok != (want >= 0) {
			t.Errorf("many places: %d: %d, %v; want %d", c, got, ok, want)
		}
	}
	// places of up to three bytes each, by which all bytes are told apart
	long := chain(1999, "a")
	for i := range long.Sets {
		long.Sets[i] = set(string([]byte{byte(i), byte(i * 7), byte(i / 256)}))
	}
	is(t, "a long row of many bytes", 2000, long)
}

// P502: what patterns tell of rows of bytes, and whether these lead anywhere.
func TestRun(t *testing.T) {
	l := of(t, "if", "[a-z]+", "[0-9]+(\\.[0-9]+)?", "=|==", "#[^\x00-\xff]")
	d := made(t, "a lexer's rules", l)
	for _, x := range []struct {
		b    string
		rule int
		ok   bool
	}{
		{"", -1, true},
		{"i", 1, true},
		{"if", 0, true},
		{"ifs", 1, true},
		{"fi", 1, true},
		{"7", 2, true},
		{"7.", -1, true},
		{"7.5", 2, true},
		{"7.5.", -1, false},
		{"7a", -1, false},
		{"7a7", -1, false},
		{"=", 3, true},
		{"==", 3, true},
		{"===", -1, false},
		{"#", -1, false},
		{"\x00", -1, false},
		{"\xff", -1, false},
		{"if if", -1, false},
	} {
		if got, ok := dfa.Run(d, []byte(x.b)); got != x.rule || ok != x.ok {
			t.Errorf("Run %q: %d, %v; want %d, %v", x.b, got, ok, x.rule, x.ok)
		}
	}
	if got, ok := dfa.Run(d, nil); got != -1 || !ok {
		t.Errorf("Run of nil: %d, %v", got, ok)
	}
	// of nothing, the beginning leads nowhere any more, but it is there
	d = made(t, "nothing", nil)
	for b, want := range map[string]bool{"": true, "a": false, "aa": false} {
		if got, ok := dfa.Run(d, []byte(b)); got != -1 || ok != want {
			t.Errorf("Run of nothing: %q: %d, %v", b, got, ok)
		}
	}
}

// P502: long rows of bytes.
func TestRunLongRows(t *testing.T) {
	d := made(t, "a row", of(t, "(a|b)*abb", "(aa)*"))
	long := []byte(strings.Repeat("a", 1<<20))
	if got, ok := dfa.Run(d, long); got != 1 || !ok {
		t.Errorf("a long row: %d, %v", got, ok)
	}
	if got, ok := dfa.Run(d, long[1:]); got != -1 || !ok {
		t.Errorf("a long row but one: %d, %v", got, ok)
	}
	if got, ok := dfa.Run(d, append(long, "bb"...)); got != 0 || !ok {
		t.Errorf("a long row and two: %d, %v", got, ok)
	}
	long[5] = 'c'
	if got, ok := dfa.Run(d, long); got != -1 || ok {
		t.Errorf("a long row that leads nowhere: %d, %v", got, ok)
	}
}

// to is a row of Next: the bytes of s lead to that state, all others nowhere.
func to(i int, s string) []int {
	row := slices.Repeat([]int{-1}, 256)
	for k := range len(s) {
		row[s[k]] = i
	}
	return row
}

// P502: automata that Of does not tell.
func TestRunOddAutomata(t *testing.T) {
	a, b := to(1, "a"), to(0, "b")
	for _, x := range []struct {
		what string
		d    api.DFA
		b    string
		rule int
		ok   bool
	}{
		{"none", api.DFA{}, "", -1, false},
		{"none", api.DFA{}, "a", -1, false},
		{"empty lists", api.DFA{Next: [][]int{}, Accept: []int{}}, "", -1, false},
		{"no Accept", api.DFA{Next: [][]int{a, b}}, "", -1, false},
		{"no Accept", api.DFA{Next: [][]int{a, b}}, "a", -1, false},
		{"no Next", api.DFA{Accept: []int{1, 2}}, "", -1, false},
		{"no Next", api.DFA{Accept: []int{1, 2}}, "a", -1, false},
		{"fewer Accepts", api.DFA{Next: [][]int{a, b}, Accept: []int{3}}, "", 3, true},
		{"fewer Accepts", api.DFA{Next: [][]int{a, b}, Accept: []int{3}}, "a", -1, false},
		{"fewer Accepts", api.DFA{Next: [][]int{a, b}, Accept: []int{3}}, "ab", -1, false},
		{"fewer rows", api.DFA{Next: [][]int{a}, Accept: []int{3, 4}}, "", 3, true},
		{"fewer rows", api.DFA{Next: [][]int{a}, Accept: []int{3, 4}}, "a", -1, false},
		{"as many", api.DFA{Next: [][]int{a, b}, Accept: []int{3, 4}}, "a", 4, true},
		{"as many", api.DFA{Next: [][]int{a, b}, Accept: []int{3, 4}}, "ab", 3, true},
		{"as many", api.DFA{Next: [][]int{a, b}, Accept: []int{3, 4}}, "aa", -1, false},
		{"as many", api.DFA{Next: [][]int{a, b}, Accept: []int{3, 4}}, "aab", -1, false},
		{"one beyond", api.DFA{Next: [][]int{to(2, "a"), b}, Accept: []int{3, 4}}, "a", -1, false},
		{"one beyond", api.DFA{Next: [][]int{to(2, "a"), b}, Accept: []int{3, 4}}, "ab", -1, false},
		{"far beyond", api.DFA{Next: [][]int{to(math.MaxInt, "a")}, Accept: []int{3}}, "a", -1, false},
		{"below nowhere", api.DFA{Next: [][]int{to(-2, "a")}, Accept: []int{3}}, "a", -1, false},
		{"far below", api.DFA{Next: [][]int{to(math.MinInt, "a")}, Accept: []int{3}}, "aa", -1, false},
		{"a nil row", api.DFA{Next: [][]int{nil}, Accept: []int{3}}, "", 3, true},
		{"a nil row", api.DFA{Next: [][]int{nil}, Accept: []int{3}}, "\x00", -1, false},
		{"a short row", api.DFA{Next: [][]int{a[:98]}, Accept: []int{3}}, "a", -1, false},
		{"a short row", api.DFA{Next: [][]int{a[:98], b}, Accept: []int{3, 4}}, "a", 4, true},
		{"a short row", api.DFA{Next: [][]int{a[:98], b}, Accept: []int{3, 4}}, "b", -1, false},
		{"a shorter row", api.DFA{Next: [][]int{a[:97], b}, Accept: []int{3, 4}}, "a", -1, false},
		{"a long row", api.DFA{Next: [][]int{append(to(0, "\xff"), 0, 0)}, Accept: []int{3}}, "\xff\xff", 3, true},
		{"accepts less than none", api.DFA{Next: [][]int{a, b}, Accept: []int{-2, math.MinInt}}, "", -1, true},
		{"accepts less than none", api.DFA{Next: [][]int{a, b}, Accept: []int{-2, math.MinInt}}, "a", -1, true},
		{"accepts any", api.DFA{Next: [][]int{a, b}, Accept: []int{math.MaxInt, 41}}, "", math.MaxInt, true},
		{"accepts any", api.DFA{Next: [][]int{a, b}, Accept: []int{math.MaxInt, 41}}, "a", 41, true},
	} {
		if got, ok := dfa.Run(x.d, []byte(x.b)); got != x.rule || ok != x.ok {
			t.Errorf("%s: Run %q: %d, %v; want %d, %v", x.what, x.b, got, ok, x.rule, x.ok)
		}
	}
}

// sample is rules of which the automaton has all: states that are one, dead places, a beginning that is come to again.
func sample(t *testing.T) []api.Posits {
	return of(t, "(ab|c)*(d(e|f)+|[^g]?)h*", "[a-z]+", "a[^\x00-\xff]b|x*", "(d|h)*", "#.*")
}

const sampleRow = "abcdefh"

// P503: what Of tells is new memory: writing over one answer, its spare room too, is not seen in
// another; no two lists of one answer share memory.
func TestAnswersAreNew(t *testing.T) {
	l := sample(t)
	one, two := made(t, "one", l), made(t, "two", l)
	want := told(two)
	taken := map[*int]bool{}
	for _, l := range append([][]int{one.Accept}, one.Next...) {
		l = l[:cap(l)]
		for i := range l {
			if taken[&l[i]] {
				t.Fatal("two lists share memory")
			}
			taken[&l[i]] = true
			l[i] = -5
		}
	}
	for i := range one.Next[:cap(one.Next)] {
		one.Next[:cap(one.Next)][i] = nil
	}
	if len(taken) < 257*5 || told(two) != want {
		t.Errorf("writing over one answer is seen elsewhere: %s", told(two))
	}
	if got := told(made(t, "again", l)); got != want {
		t.Errorf("Of again: %s; want %s", got, want)
	}
}

// roomy is l in other memory, with spare room behind it that is filled with spare.
func roomy[T any](l []T, spare T) []T { return append(slices.Clone(l), spare, spare)[:len(l)] }

// P503: what is handed in to Of stays as it is, its spare room too, and is not kept.
func TestHandedInToOfStays(t *testing.T) {
	l := roomy(sample(t), api.Posits{Null: true, First: []int{-7}})
	for i, p := range l {
		for k, f := range p.Follow {
			p.Follow[k] = roomy(append(f, -1, 1000), -7)
		}
		l[i] = api.Posits{
			Sets:   roomy(p.Sets, [4]uint64{7}),
			Null:   p.Null,
			First:  roomy(append(p.First, -1, 1000), -7),
			Last:   roomy(append(p.Last, math.MinInt), -7),
			Follow: roomy(p.Follow, []int{-7}),
		}
	}
	was := fmt.Sprint(l[:len(l)+2])
	spare := func() string {
		s := ""
		for _, p := range l {
			s += fmt.Sprint(p.Sets[:len(p.Sets)+2], p.First[:len(p.First)+2], p.Last[:len(p.Last)+2], p.Follow[:len(p.Follow)+2])
			for _, f := range p.Follow {
				s += fmt.Sprint(f[:len(f)+2])
			}
		}
		return s
	}
	room := spare()
	d := made(t, "roomy", l)
	want := told(d)
	if want != told(made(t, "sample", sample(t))) || fmt.Sprint(l[:len(l)+2]) != was || spare() != room {
		t.Error("what is handed in has turned")
	}
	for i := range l {
		clear(l[i].Sets)
		clear(l[i].First)
		clear(l[i].Last)
		for _, f := range l[i].Follow {
			clear(f)
		}
	}
	clear(l)
	if told(d) != want {
		t.Errorf("an answer has turned: %s", told(d))
	}
	if got := told(made(t, "turned", l)); got != "" {
		t.Errorf("what was handed in ahead of this is told: %s", got)
	}
}

// P503: what is handed in to Run stays as it is, its spare room too, and is not kept.
func TestHandedInToRunStays(t *testing.T) {
	d := api.DFA{
		Next:   roomy([][]int{roomy(to(1, "ab"), -7), roomy(to(0, "a"), -7)}, []int{-7}),
		Accept: roomy([]int{-9, 5}, -7),
	}
	b := roomy([]byte("abaab"), '#')
	was := fmt.Sprint(d.Next[:4], d.Accept[:4], d.Next[0][:258], d.Next[1][:258], b[:7])
	for range 2 {
		if got, ok := dfa.Run(d, b[:1]); got != 5 || !ok {
			t.Errorf("%d, %v", got, ok)
		}
		if got, ok := dfa.Run(d, b); got != -1 || ok {
			t.Errorf("%d, %v", got, ok)
		}
	}
	if fmt.Sprint(d.Next[:4], d.Accept[:4], d.Next[0][:258], d.Next[1][:258], b[:7]) != was {
		t.Error("what is handed in has turned")
	}
	d.Next[0]['a'], d.Accept[0] = 0, 8
	if got, ok := dfa.Run(d, b[:1]); got != 8 || !ok {
		t.Errorf("what was handed in ahead of this is asked: %d, %v", got, ok)
	}
}

// P503: a call hangs on its arguments alone: errors and other patterns ahead of it, and calls at the same time, change nothing.
func TestCallsHangOnArgumentsAlone(t *testing.T) {
	l := sample(t)
	want := made(t, "sample", l)
	rule, _ := dfa.Run(want, []byte(sampleRow))
	others := [][]api.Posits{nil, l[1:], l[:1], make([]api.Posits, 41), {chain(3000, "a")}, {ring(99, "b"), ring(10, "b")}}
	var group sync.WaitGroup
	for range 8 {
		group.Go(func() {
			for _, other := range others {
				one, e := dfa.Of(other)
				dfa.Run(one, []byte(sampleRow))
				d, again := dfa.Of(l)
				if again != api.OK || !same(d, want) {
					t.Errorf("Of the sample: %s, %v", told(d), again)
				}
				if got, ok := dfa.Run(want, []byte(sampleRow)); got != rule || !ok {
					t.Errorf("Run of the sample: %d, %v", got, ok)
				}
				if two, again := dfa.Of(other); again != e || !same(one, two) {
					t.Errorf("Of again: %v; ahead: %v", again, e)
				}
			}
		})
	}
	group.Wait()
}
