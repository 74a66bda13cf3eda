package reach_test

import (
	"math"
	"slices"
	"testing"

	"undergrowth/api"
	"undergrowth/reach"
	"undergrowth/sample"
)

// most is what a length above it is told as.
const most = 1_000_000_000

// tells looks at what the three calls tell of each name.
func tells(t *testing.T, what string, g api.Grammar, to []bool, long []int) {
	t.Helper()
	if got := reach.Reachable(g); !slices.Equal(got, to) {
		t.Errorf("%s: Reachable: %v; want %v", what, got, to)
	}
	lengths(t, what, g, long)
}

// lengths looks at what Productive and Shortest tell of each name.
func lengths(t *testing.T, what string, g api.Grammar, long []int) {
	t.Helper()
	var ends []bool
	for _, n := range long {
		ends = append(ends, n >= 0)
	}
	if got := reach.Productive(g); !slices.Equal(got, ends) {
		t.Errorf("%s: Productive: %v; want %v", what, got, ends)
	}
	if got := reach.Shortest(g); !slices.Equal(got, long) {
		t.Errorf("%s: Shortest: %v; want %v", what, got, long)
	}
}

// only is n times false, but for the places that are named.
func only(n int, places ...int) []bool {
	l := make([]bool, n)
	for _, i := range places {
		l[i] = true
	}
	return l
}

// P1201: grammars as they are.
func TestGrammars(t *testing.T) {
	tells(t, "example", api.Grammar{Names: 1}, []bool{true}, []int{-1})
	tells(t, "nothing", sample.Grammar(1, 0, "A"), []bool{true}, []int{0})
	tells(t, "a kind", sample.Grammar(1, 1, "Aa"), []bool{true}, []int{1})
	tells(t, "sums", sample.Sums(), only(4, 0, 1, 2, 3), []int{0, 1, 1, 0})
	tells(t, "brackets", sample.Grammar(1, 2, "AaAbA", "A"), only(1, 0), []int{0})
	tells(t, "brackets around something", sample.Grammar(1, 3, "AaAb", "Aabc"), only(1, 0), []int{3})
	tells(t, "if else", sample.Grammar(3, 4, "AaACB", "AbC", "B", "BbA", "Cc"), only(3, 0, 1, 2), []int{2, 0, 1})
	tells(t, "words", sample.Grammar(3, 2, "ABBC", "Baaa", "BCC", "Cab", "CbCCa"), only(3, 0, 1, 2), []int{8, 3, 2})
	tells(t, "by itself", sample.Grammar(2, 1, "AA", "AB", "BB", "BA", "BAa", "Aaa"), only(2, 0, 1), []int{2, 2})
}

// P1201: Start, and what stands in a rule of a name that is: anywhere in it, in any of its rules, wherever they stand.
func TestReachable(t *testing.T) {
	for _, x := range []struct {
		names int
		rules []string
		to    [][]int // for each Start
	}{
		{3, nil, [][]int{{0}, {1}, {2}}},
		{3, []string{"AB", "BC"}, [][]int{{0, 1, 2}, {1, 2}, {2}}},
		{3, []string{"BC", "AB"}, [][]int{{0, 1, 2}, {1, 2}, {2}}},
		{3, []string{"CB", "BA"}, [][]int{{0}, {0, 1}, {0, 1, 2}}},
		{3, []string{"BA", "CB"}, [][]int{{0}, {0, 1}, {0, 1, 2}}},
		{3, []string{"AA", "BB", "CC"}, [][]int{{0}, {1}, {2}}},
		{3, []string{"AB", "BC", "CA"}, [][]int{{0, 1, 2}, {0, 1, 2}, {0, 1, 2}}},
		{4, []string{"AaBaaaaa", "BaaaaaaaC", "CDa", "D"}, [][]int{{0, 1, 2, 3}, {1, 2, 3}, {2, 3}, {3}}},
		{5, []string{"A", "Aa", "AB", "AC", "CE", "DA"}, [][]int{{0, 1, 2, 4}, {1}, {2, 4}, {0, 1, 2, 3, 4}, {4}}},
		{4, []string{"ABCD", "DA"}, [][]int{{0, 1, 2, 3}, {1}, {2}, {0, 1, 2, 3}}},
		{4, []string{"AaaaaaaaD", "DDDDDDDDB"}, [][]int{{0, 1, 3}, {1}, {2}, {1, 3}}},
	} {
		g := sample.Grammar(x.names, 1, x.rules...)
		for start, to := range x.to {
			g.Start = start
			if got, want := reach.Reachable(g), only(x.names, to...); !slices.Equal(got, want) {
				t.Errorf("Reachable %v from %d: %v; want %v", x.rules, start, got, want)
			}
		}
	}
}

// P1201: what comes to no end, or stands where no row comes to an end, is reachable all the same; what has no row of kinds takes the rows of all that needs it.
func TestNoEnd(t *testing.T) {
	tells(t, "no rules", sample.Grammar(2, 2, "AaBb"), only(2, 0, 1), []int{-1, -1})
	tells(t, "no rules ahead", sample.Grammar(3, 2, "ABC", "Ca"), only(3, 0, 1, 2), []int{-1, -1, 1})
	tells(t, "no end", sample.Grammar(2, 2, "AaAB", "BAb"), only(2, 0, 1), []int{-1, -1})
	tells(t, "itself alone", sample.Grammar(1, 1, "AA"), only(1, 0), []int{-1})
	tells(t, "itself, and more", sample.Grammar(1, 1, "AAa", "AaA", "AAA"), only(1, 0), []int{-1})
	tells(t, "a way around", sample.Grammar(3, 1, "AB", "AaC", "BB", "Caa"), only(3, 0, 1, 2), []int{3, -1, 2})
	tells(t, "no end at its last symbol", sample.Grammar(2, 1, "AaaaaaaaB", "Aa"), only(2, 0, 1), []int{1, -1})
	tells(t, "no end at its first symbol", sample.Grammar(2, 1, "ABaaaaaaa", "A"), only(2, 0, 1), []int{0, -1})
	tells(t, "of no use, and short", sample.Grammar(3, 1, "ABa", "Baa", "C", "CA"), only(3, 0, 1), []int{3, 2, 0})
}

// P1201: Productive and Shortest tell of all names, whatever the Start is.
func TestStart(t *testing.T) {
	g := sample.Grammar(4, 2, "ABB", "Bab", "C", "CB", "DD")
	for g.Start = range 4 {
		lengths(t, "start", g, []int{4, 2, 0, -1})
	}
}

// P1201: the shortest one counts, wherever it stands among the rules, and in whatever order they come to it.
func TestShortest(t *testing.T) {
	rules := []string{"Aaaaaaaaa", "AaB", "AC", "Bbb", "BaCC", "CDD", "CaDB", "DEE", "Eaaa", "Ea", "Eaa", "ADDDD", "CCCa"}
	long := []int{3, 2, 4, 2, 1}
	for range rules {
		tells(t, "turned", sample.Grammar(5, 2, rules...), only(5, 0, 1, 2, 3, 4), long)
		rules = append(rules[1:], rules[0])
	}
	slices.Reverse(rules)
	tells(t, "from the end", sample.Grammar(5, 2, rules...), only(5, 0, 1, 2, 3, 4), long)
	for n := range 9 {
		row := slices.Repeat([]int{-1}, n)
		g := api.Grammar{Names: 2, Kinds: 1, Rules: []api.Rule{{Right: slices.Repeat([]int{-1}, 8)}, {Right: row}, {Left: 1, Right: slices.Repeat([]int{0}, n)}, {Right: slices.Repeat([]int{0}, 8)}}}
		tells(t, "as long", g, only(2, 0), []int{n, n * n})
	}
}

// P1201: what is told of the last name comes to the first one, whatever the order of the rules.
func TestRows(t *testing.T) {
	for _, turned := range []bool{false, true} {
		g := api.Grammar{Names: 40, Kinds: 40}
		long := make([]int, 40)
		for i := range 39 {
			g.Rules = append(g.Rules, api.Rule{Left: i, Right: []int{i + 1, -1 - i}})
			long[i] = 40 - i
		}
		g.Rules = append(g.Rules, api.Rule{Left: 39, Right: []int{-40}})
		long[39] = 1
		if turned {
			slices.Reverse(g.Rules)
		}
		for g.Start = range 40 {
			tells(t, "row", g, only(40, sample.UpTo(40)[g.Start:]...), long)
		}
		g.Start = 0
		for i, r := range g.Rules {
			if r.Left == 39 {
				g.Rules[i].Right = []int{39}
			}
		}
		tells(t, "row without an end", g, only(40, sample.UpTo(40)...), slices.Repeat([]int{-1}, 40))
	}
}

// exactly is a grammar, of at most 31 names, whose first name has one row alone, of n kinds; n is 1 at least.
func exactly(n int) api.Grammar {
	g := api.Grammar{Kinds: 1}
	for ; n > 1; n /= 2 {
		next := g.Names + 1
		g.Rules = append(g.Rules, api.Rule{Left: g.Names, Right: append([]int{next, next}, slices.Repeat([]int{-1}, n%2)...)})
		g.Names++
	}
	g.Rules = append(g.Rules, api.Rule{Left: g.Names, Right: []int{-1}})
	g.Names++
	return g
}

// P1201: lengths up to 10^9 are told as they are, those above as that.
func TestLong(t *testing.T) {
	for _, n := range []int{1, 2, 3, 255, 65536, 1 << 29, most - 2, most - 1, most, most + 1, most + 2, 1 << 30, math.MaxInt32} {
		g := exactly(n)
		long := make([]int, g.Names)
		for i := range long {
			long[i] = min(n>>i, most)
		}
		tells(t, "exactly", g, only(g.Names, sample.UpTo(g.Names)...), long)
		slices.Reverse(g.Rules)
		tells(t, "exactly, from the end", g, only(g.Names, sample.UpTo(g.Names)...), long)
	}
}

// P1201: what is too long stays so, however many of it there are, and gives way to what is shorter.
func TestTooLong(t *testing.T) {
	for times := 2; times <= 8; times++ {
		g := api.Grammar{Names: 40, Kinds: 1}
		long, n := make([]int, 40), 1
		for i := 39; i >= 0; i-- {
			g.Rules = append(g.Rules, api.Rule{Left: i, Right: slices.Repeat([]int{i + 1}, times)})
			long[i], n = n, min(times*n, most)
		}
		g.Rules[0].Right = []int{-1}
		for range 2 {
			tells(t, "ever longer", g, only(40, sample.UpTo(40)...), long)
			slices.Reverse(g.Rules)
		}
		g.Rules = append(g.Rules, api.Rule{Left: 1, Right: []int{-1, -1, -1}})
		long[0], long[1] = 3*times, 3
		tells(t, "a shorter one", g, only(40, sample.UpTo(40)...), long)
	}
	for _, n := range []int{most - 1, most, most + 1} {
		g := exactly(n)
		a, b := g.Names, g.Names+1
		g.Names += 2
		g.Rules = append(g.Rules, api.Rule{Left: b, Right: []int{0}}, api.Rule{Left: a, Right: []int{0, 0}}, api.Rule{Left: a, Right: []int{0, -1}})
		lengths(t, "one more", g, append(reach.Shortest(exactly(n)), most, min(n, most)))
		g.Rules = append(g.Rules, api.Rule{Left: a, Right: []int{b}})
		lengths(t, "the shortest of what is long", g, append(reach.Shortest(exactly(n)), min(n, most), min(n, most)))
	}
}

// P1201: as many names, kinds and rules as there may be.
func TestGreatest(t *testing.T) {
	g := api.Grammar{Names: 40, Kinds: 40, Start: 39}
	for i := range 60 {
		g.Rules = append(g.Rules, api.Rule{Left: i % 40, Right: []int{-40, (i + 7) % 40, -1, (i + 11) % 40, -20, (i + 39) % 40, -2, -3}})
	}
	tells(t, "no end", g, only(40, sample.UpTo(40)...), slices.Repeat([]int{-1}, 40))
	long := make([]int, 40)
	for i := range 20 {
		g.Rules[i] = api.Rule{Left: 2 * i, Right: slices.Repeat([]int{-1 - i}, i%8)}
		g.Rules[20+i] = api.Rule{Left: 2*i + 1, Right: slices.Repeat([]int{2 * i}, i%9)}
		g.Rules[40+i] = api.Rule{Left: 39, Right: []int{2 * i}}
		long[2*i], long[2*i+1] = i%8, i%8*(i%9)
	}
	long[39] = 0
	tells(t, "many", g, only(40, append([]int{39}, evens(40)...)...), long)
}

// evens is the even numbers from 0 to n - 1.
func evens(n int) []int {
	var l []int
	for i := 0; i < n; i += 2 {
		l = append(l, i)
	}
	return l
}

// P1201: of what is no grammar nothing is told.
func TestNotForm(t *testing.T) {
	for _, x := range sample.NotForm() {
		tells(t, "no grammar", x.Grammar, nil, nil)
	}
}

// P1201: how the rules weigh, what is forbidden and which classes there are turns nothing; nor do rules that stand twice, or from the end.
func TestOnlyRulesCount(t *testing.T) {
	g := sample.Sums()
	to, long := reach.Reachable(g), reach.Shortest(g)
	g = sample.Dressed()
	tells(t, "weights, classes, what is forbidden", g, to, long)
	g.Rules = append(g.Rules, g.Rules...)
	slices.Reverse(g.Rules)
	g.Forbid, g.RuleClass = nil, nil
	tells(t, "twice, from the end", g, to, long)
}
