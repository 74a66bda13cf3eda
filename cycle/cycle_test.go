package cycle_test

import (
	"slices"
	"testing"

	"undergrowth/api"
	"undergrowth/cycle"
	"undergrowth/grammar"
	"undergrowth/sample"
)

// tells looks at what both calls tell: the names that run in circles, and what Check finds.
func tells(t *testing.T, what string, g api.Grammar, circles []bool, at int, e api.Errno) {
	t.Helper()
	if got := cycle.Cyclic(g); !slices.Equal(got, circles) {
		t.Errorf("%s: Cyclic: %v; want %v", what, got, circles)
	}
	if gotAt, got := cycle.Check(g); gotAt != at || got != e {
		t.Errorf("%s: Check: %d, %d; want %d, %d", what, gotAt, got, at, e)
	}
}

// only is n times false, but for the places that are named.
func only(n int, places ...int) []bool {
	l := make([]bool, n)
	for _, i := range places {
		l[i] = true
	}
	return l
}

// P1301: grammars as they are.
func TestGrammars(t *testing.T) {
	tells(t, "example", api.Grammar{Names: 1}, only(1), 0, api.ErrUseless)
	tells(t, "nothing", sample.Grammar(1, 0, "A"), only(1), -1, api.OK)
	tells(t, "a kind", sample.Grammar(1, 1, "Aa"), only(1), -1, api.OK)
	tells(t, "sums", sample.Sums(), only(4), -1, api.OK)
	tells(t, "brackets", sample.Grammar(1, 2, "AaAbA", "A"), only(1), -1, api.OK)
	tells(t, "a list of lists", sample.Grammar(2, 1, "A", "AAB", "B", "Ba"), only(2, 0), 0, api.ErrCycle)
	tells(t, "if else", sample.Grammar(3, 4, "AaACB", "AbC", "B", "BbA", "Cc"), only(3), -1, api.OK)
	tells(t, "a sum is a term is a sum", sample.Grammar(2, 2, "ABaA", "AB", "Bb", "BA"), only(2, 0, 1), 0, api.ErrCycle)
	tells(t, "many ways, no circle", sample.Grammar(1, 1, "AAA", "AAAA", "Aa"), only(1), -1, api.OK)
}

// P1301: it derives itself alone where all beside it in a rule derives nothing, on both sides of it; not where one of them derives something always.
func TestBeside(t *testing.T) {
	for _, x := range []struct {
		right   string
		circles bool
	}{
		{"A", true}, {"NA", true}, {"AN", true}, {"NAN", true}, {"NMANMNMN", true}, {"ANMMMMMM", true}, {"NNNNNNNA", true},
		{"", false}, {"N", false}, {"a", false}, {"NM", false},
		{"Aa", false}, {"aA", false}, {"NaA", false}, {"AaN", false}, {"NAa", false}, {"ANa", false}, {"aNAN", false}, {"NANa", false}, {"NNNNNNaA", false}, {"aNNNNNNA", false}, {"AaNNNNNN", false}, {"ANNNNNNa", false},
		{"AS", false}, {"SA", false}, {"NSA", false}, {"ASN", false}, {"NNNNNNSA", false}, {"ASNNNNNN", false}, {"SANNNNNN", false}, {"ANNNNNNS", false},
		{"AA", false}, {"NAAN", false}, {"ANA", false}, {"AAAAAAAA", false},
		{"AL", false}, {"LA", false}, {"NLA", false}, {"ALM", false},
	} {
		// M and N derive nothing (N something, too), S something always, L comes to no end.
		g := sample.Grammar(19, 2, "A"+x.right, "Aa", "M", "NM", "Nb", "Sb", "SNS", "LLb", "LL")
		want := only(19, 'S'-'A', 'L'-'A')
		want[0] = x.circles
		if got := cycle.Cyclic(g); !slices.Equal(got, want) {
			t.Errorf("%q: Cyclic: %v; want %v", x.right, got, want)
		}
		g.Rules = append(g.Rules, api.Rule{})
		if got, want := cycle.Cyclic(g)[0], onlyVanishing(x.right); got != want {
			t.Errorf("%q, and nothing: Cyclic: %v; want %v", x.right, got, want)
		}
	}
}

// onlyVanishing tells whether A stands in the row and nothing but what derives nothing beside it, A itself with the rest.
func onlyVanishing(right string) bool {
	hasA := false
	for _, c := range right {
		if c != 'A' && c != 'M' && c != 'N' {
			return false
		}
		hasA = hasA || c == 'A'
	}
	return hasA
}

// P1301: circles over other names: all on the way run in them; those that lead there or lead away alone don't.
func TestWays(t *testing.T) {
	for _, x := range []struct {
		names   int
		rules   []string
		circles []int
	}{
		{2, []string{"AB", "BA"}, []int{0, 1}},
		{2, []string{"AB", "BB"}, []int{1}},
		{2, []string{"AA", "AB"}, []int{0}},
		{2, []string{"AB", "Ba"}, nil},
		{2, []string{"AB", "BAa"}, nil},
		{2, []string{"AaB", "BbA"}, nil},
		{3, []string{"AB", "BC", "CA"}, []int{0, 1, 2}},
		{3, []string{"CB", "BA", "AC"}, []int{0, 1, 2}},
		{3, []string{"AB", "BC", "CB"}, []int{1, 2}},
		{3, []string{"AB", "BA", "AC", "Ca"}, []int{0, 1}},
		{3, []string{"AB", "BA", "CA", "CB"}, []int{0, 1}},
		{4, []string{"AB", "BA", "BC", "CD", "DC"}, []int{0, 1, 2, 3}},
		{4, []string{"AB", "BC", "CD", "DB"}, []int{1, 2, 3}},
		{4, []string{"AD", "DC", "CB", "BA", "AC"}, []int{0, 1, 2, 3}},
		{5, []string{"AB", "AC", "BD", "CD", "DE"}, nil},
		{5, []string{"AB", "AC", "BD", "CD", "DE", "EC"}, []int{2, 3, 4}},
		{3, []string{"ABC", "B", "CA"}, []int{0, 2}},
		{3, []string{"ABC", "C", "BA"}, []int{0, 1}},
		{3, []string{"ABC", "B", "C", "BA"}, []int{0, 1}},
		{3, []string{"ABC", "CA", "BA"}, nil},
		{3, []string{"ABC", "B", "CaA"}, nil},
		{4, []string{"ABCD", "BCD", "C", "DC"}, nil},
		{4, []string{"ABCD", "BCD", "C", "DC", "DA"}, []int{0, 1, 3}},
	} {
		g := sample.Grammar(x.names, 2, x.rules...)
		for range x.rules {
			for g.Start = range x.names {
				if got, want := cycle.Cyclic(g), only(x.names, x.circles...); !slices.Equal(got, want) {
					t.Errorf("%v from %d: Cyclic: %v; want %v", g.Rules, g.Start, got, want)
				}
			}
			g.Rules = append(g.Rules[1:], g.Rules[0])
		}
	}
}

// P1301: circles are told of names that are of no use, too.
func TestUselessCircles(t *testing.T) {
	tells(t, "no end", sample.Grammar(1, 0, "AA"), only(1, 0), 0, api.ErrUseless)
	tells(t, "not reached", sample.Grammar(2, 1, "Aa", "BB", "Ba"), only(2, 1), 1, api.ErrUseless)
	tells(t, "no end behind it", sample.Grammar(2, 1, "Aa", "AB", "BB"), only(2, 1), 1, api.ErrUseless)
	tells(t, "no rules", sample.Grammar(3, 1, "AB", "BA", "AC"), only(3, 0, 1), 0, api.ErrUseless)
}

// P1301: the first name that is of no use, whichever way; ahead of all circles, and the first of these.
func TestFirstName(t *testing.T) {
	for _, x := range []struct {
		names int
		rules []string
		start int
		at    int
		e     api.Errno
	}{
		{3, []string{"Aa", "Bb", "Cb"}, 0, 1, api.ErrUseless},
		{3, []string{"Aa", "Bb", "Cb"}, 1, 0, api.ErrUseless},
		{3, []string{"Aa", "Bb", "Cb"}, 2, 0, api.ErrUseless},
		{3, []string{"AB", "AC", "Aa", "Cb"}, 0, 1, api.ErrUseless},
		{3, []string{"AB", "AC", "Aa", "Bb"}, 0, 2, api.ErrUseless},
		{3, []string{"AC", "Aa", "Bb"}, 0, 1, api.ErrUseless},
		{3, []string{"AB", "Aa", "Cb"}, 0, 1, api.ErrUseless},
		{3, []string{"ABC", "Bb", "Cb"}, 0, -1, api.OK},
		{3, []string{"CAB", "Bb", "Ab"}, 2, -1, api.OK},
		{3, []string{"CAB", "Bb", "Ab"}, 0, 1, api.ErrUseless},
		{3, []string{"AA", "Aa", "BB", "Bb"}, 0, 1, api.ErrUseless},
		{3, []string{"AA", "Aa", "AB", "Ba"}, 0, 2, api.ErrUseless},
		{3, []string{"AA", "Aa", "ABC", "Ba", "Cb"}, 0, 0, api.ErrCycle},
		{3, []string{"Aa", "ABC", "Ba", "Cb", "CC"}, 0, 2, api.ErrCycle},
		{3, []string{"Aa", "ABC", "Ba", "Cb", "CC", "BB"}, 0, 1, api.ErrCycle},
		{3, []string{"CC", "BB", "Aa", "ABC", "Ba", "Cb"}, 0, 1, api.ErrCycle},
		{3, []string{"CCC", "CAB", "C", "Bb", "Ab"}, 2, 2, api.ErrCycle},
		{3, []string{"CCC", "CAB", "Ca", "Bb", "BA", "AB"}, 2, 0, api.ErrCycle},
	} {
		g := sample.Grammar(x.names, 2, x.rules...)
		g.Start = x.start
		for range 2 {
			if at, e := cycle.Check(g); at != x.at || e != x.e {
				t.Errorf("Check of %v from %d: %d, %d; want %d, %d", g.Rules, x.start, at, e, x.at, x.e)
			}
			slices.Reverse(g.Rules)
		}
	}
}

// P1301: as many names, kinds and rules as there may be; the last bit of a circle counts, wherever it stands.
func TestGreatest(t *testing.T) {
	g := api.Grammar{Names: 40, Kinds: 40}
	for i := range 40 {
		g.Rules = append(g.Rules, api.Rule{Left: i, Right: []int{(i + 1) % 40}})
	}
	g.Rules = append(g.Rules, api.Rule{Left: 17, Right: []int{-40}})
	all := only(40, sample.UpTo(40)...)
	for range 2 {
		for g.Start = range 40 {
			tells(t, "one circle of all", g, all, 0, api.ErrCycle)
		}
		slices.Reverse(g.Rules)
	}
	for open := range 40 {
		g.Start = (open + 1) % 40
		g.Rules[open].Right = []int{(open + 1) % 40, -1}
		tells(t, "opened", g, only(40), -1, api.OK)
		g.Rules[open].Right = []int{(open + 1) % 40}
		g.Rules = append(g.Rules, api.Rule{Left: open, Right: []int{open}})
		tells(t, "closed again", g, all, 0, api.ErrCycle)
		g.Rules[open].Right = []int{(open + 1) % 40, -1}
		tells(t, "one alone", g, only(40, open), open, api.ErrCycle)
		g.Rules[open].Right = []int{(open + 1) % 40}
		g.Rules = g.Rules[:41]
	}
}

// P1301: a circle that hangs on a long row of names, each of which derives nothing by the next one.
func TestLongVanishing(t *testing.T) {
	for _, turned := range []bool{false, true} {
		g := api.Grammar{Names: 40, Kinds: 1, Rules: []api.Rule{{Right: []int{1, 2, 3, 0, 4, 5, 6, 7}}, {Right: []int{-1}}}}
		for i := 1; i < 39; i++ {
			g.Rules = append(g.Rules, api.Rule{Left: i, Right: []int{i + 1, i + 1}})
		}
		g.Rules = append(g.Rules, api.Rule{Left: 39, Right: []int{-1}})
		if turned {
			slices.Reverse(g.Rules)
		}
		tells(t, "no name is nothing", g, only(40), -1, api.OK)
		g.Rules = append(g.Rules, api.Rule{Left: 39})
		tells(t, "the last one is nothing", g, only(40, 0), 0, api.ErrCycle)
	}
}

// P1301: of what is no grammar Check tells Form's error and its place, Cyclic nothing.
func TestNotForm(t *testing.T) {
	for _, x := range sample.NotForm() {
		tells(t, "no grammar", x.Grammar, nil, x.At, x.Err)
	}
}

// P1301: Form's error comes first, in a grammar of no use that runs in circles, too.
func TestFormFirst(t *testing.T) {
	g := sample.Grammar(3, 1, "BB", "AA", "BC")
	tells(t, "of no use", g, only(3, 0, 1), 0, api.ErrUseless)
	g.Rules[2].Dyn = -1001
	tells(t, "too light", g, nil, 2, api.ErrArg)
	g.Forbid = [][3]int{{0, 0, 1}}
	tells(t, "too light, and forbidden what can't be", g, nil, 2, api.ErrArg)
	g.Rules[2].Dyn = 0
	tells(t, "forbidden what can't be", g, nil, -1, api.ErrName)
	g.Forbid[0][2] = 2
	tells(t, "forbidden what can be", g, only(3, 0, 1), 0, api.ErrUseless)
}

// P1301: how the rules weigh, what is forbidden and which classes there are turns nothing; nor do rules that stand twice, or from the end.
func TestOnlyRulesCount(t *testing.T) {
	g := sample.Grammar(3, 2, "AaB", "BC", "CB", "Cb", "C", "AA")
	circles := only(3, 0, 1, 2)
	g.Forbid = [][3]int{{1, 0, 2}, {2, 0, 1}, {5, 0, 5}, {5, 0, 0}}
	g.RuleClass, g.KindClass = sample.UpTo(6), sample.UpTo(2)
	for i := range g.Rules {
		g.Rules[i].Dyn = 1000 - 400*i
	}
	if at, e := grammar.Form(g); e != api.OK {
		t.Fatal(at, e)
	}
	tells(t, "weights, classes, what is forbidden", g, circles, 0, api.ErrCycle)
	g.Rules = append(g.Rules, g.Rules...)
	slices.Reverse(g.Rules)
	g.Forbid, g.RuleClass = nil, nil
	tells(t, "twice, from the end", g, circles, 0, api.ErrCycle)
}
