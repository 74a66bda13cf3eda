package sets_test

import (
	"math"
	"slices"
	"testing"

	"undergrowth/api"
	"undergrowth/sample"
	"undergrowth/sets"
)

// same tells whether two lists hold the same lists; nil is as an empty one.
func same(a, b [][]int) bool { return slices.EqualFunc(a, b, slices.Equal[[]int]) }

// tells looks at what the three calls tell of each name.
func tells(t *testing.T, what string, g api.Grammar, null []bool, first, follow [][]int) {
	t.Helper()
	if got := sets.Nullable(g); !slices.Equal(got, null) {
		t.Errorf("%s: Nullable: %v; want %v", what, got, null)
	}
	if got := sets.First(g); !same(got, first) {
		t.Errorf("%s: First: %v; want %v", what, got, first)
	}
	if got := sets.Follow(g); !same(got, follow) {
		t.Errorf("%s: Follow: %v; want %v", what, got, follow)
	}
}

// begins looks at what FirstOf tells of a row.
func begins(t *testing.T, g api.Grammar, l []int, first []int, null bool) {
	t.Helper()
	if got, gotNull := sets.FirstOf(g, l); !slices.Equal(got, first) || gotNull != null {
		t.Errorf("FirstOf %v: %v, %v; want %v, %v", l, got, gotNull, first, null)
	}
}

// P1101: grammars as they are.
func TestGrammars(t *testing.T) {
	tells(t, "example", api.Grammar{Names: 1}, []bool{false}, [][]int{nil}, [][]int{{0}})
	tells(t, "sums", sample.Sums(), []bool{true, false, false, true},
		[][]int{{0, 2, 4}, {0, 2, 4}, {0, 2, 4}, {0}},
		[][]int{{0, 2, 4, 7}, {0, 3, 5}, {0, 1, 3, 5}, {2}})
	tells(t, "brackets", sample.Grammar(1, 2, "AaAbA", "A"), []bool{true}, [][]int{{0}}, [][]int{{1, 2}})
	tells(t, "if else", sample.Grammar(3, 4, "AaACB", "Ad", "B", "BbA", "Cc"), []bool{false, true, false},
		[][]int{{0, 3}, {1}, {2}}, [][]int{{2, 4}, {2, 4}, {1, 2, 4}})
	tells(t, "nothing alone", sample.Grammar(2, 1, "ABB", "B"), []bool{true, true}, [][]int{nil, nil}, [][]int{{1}, {1}})
	tells(t, "circles", sample.Grammar(3, 2, "AB", "BC", "CA", "CaA", "BBb"), []bool{false, false, false},
		[][]int{{0}, {0}, {0}}, [][]int{{1, 2}, {1, 2}, {1, 2}})
	tells(t, "only what is nothing stands ahead", sample.Grammar(3, 3, "ABCa", "BCC", "C", "Cb", "CCc"), []bool{false, true, true},
		[][]int{{0, 1, 2}, {1, 2}, {1, 2}}, [][]int{{3}, {0, 1, 2}, {0, 1, 2}})
}

// P1101: names that come to no end stand in what is derived as others do; a name that has no rules stands in the way of what is behind it.
func TestNoEnd(t *testing.T) {
	tells(t, "no rules", sample.Grammar(2, 2, "AaBb"), []bool{false, false}, [][]int{{0}, nil}, [][]int{{2}, {1}})
	tells(t, "no rules ahead", sample.Grammar(2, 2, "ABb"), []bool{false, false}, [][]int{nil, nil}, [][]int{{2}, {1}})
	tells(t, "no end", sample.Grammar(2, 2, "AaAB", "BAb"), []bool{false, false}, [][]int{{0}, {0}}, [][]int{{0, 1, 2}, {0, 1, 2}})
	tells(t, "itself first", sample.Grammar(1, 2, "AAa", "AAb"), []bool{false}, [][]int{nil}, [][]int{{0, 1, 2}})
	tells(t, "itself alone", sample.Grammar(1, 1, "AA"), []bool{false}, [][]int{nil}, [][]int{{1}})
}

// P1101: a name can come up and have nothing that ever stands right behind it; what stands within it counts all the same.
func TestNothingBehind(t *testing.T) {
	tells(t, "dead ahead", sample.Grammar(4, 2, "ABC", "BDb", "Da"), []bool{false, false, false, false},
		[][]int{{0}, {0}, nil, {0}}, [][]int{{2}, nil, {2}, {1}})
	tells(t, "dead in a row", sample.Grammar(5, 1, "ABE", "BCE", "CDE", "Da"), make([]bool, 5),
		[][]int{{0}, {0}, {0}, {0}, nil}, [][]int{{1}, nil, nil, nil, {1}})
	tells(t, "dead, and at the end", sample.Grammar(4, 2, "ABC", "BDb", "BD", "Da", "AB"), make([]bool, 4),
		[][]int{{0}, {0}, nil, {0}}, [][]int{{2}, {2}, {2}, {1, 2}})
}

// P1101: Follow tells of what Start derives alone, Nullable and First of all names.
func TestStart(t *testing.T) {
	g := sample.Grammar(3, 3, "AaBb", "BCc", "C", "CAa")
	first := [][]int{{0}, {0, 2}, {0}}
	null := []bool{false, false, true}
	for start, follow := range [][][]int{
		{{0, 3}, {1}, {2}},
		{{0}, {1, 3}, {2}},
		{{0}, {1}, {2, 3}},
	} {
		g.Start = start
		tells(t, "start", g, null, first, follow)
	}
	g = sample.Grammar(3, 3, "AaBb", "BBc", "CBa", "CAb", "CC")
	first = [][]int{{0}, nil, {0}}
	for start, follow := range [][][]int{
		{{3}, {1, 2}, nil},
		{nil, {2, 3}, nil},
		{{1}, {0, 1, 2}, {3}},
	} {
		g.Start = start
		tells(t, "start", g, make([]bool, 3), first, follow)
	}
}

// P1101: as many names and kinds as there may be; the end is the number behind the last kind.
func TestGreatest(t *testing.T) {
	g := api.Grammar{Names: 40, Kinds: 40}
	for k := range 40 {
		g.Rules = append(g.Rules, api.Rule{Left: 39, Right: []int{-1 - k}})
	}
	for i := range 13 {
		g.Rules = append(g.Rules, api.Rule{Left: 3 * i, Right: []int{3*i + 1, 3*i + 2, 3*i + 3, 39}})
		if i%2 == 0 {
			g.Rules = append(g.Rules, api.Rule{Left: 3*i + 2})
		}
	}
	null := make([]bool, 40)
	first, follow := make([][]int, 40), make([][]int, 40)
	first[39] = sample.UpTo(40)
	for i := range 13 {
		null[3*i+2] = i%2 == 0
		follow[3*i+3] = sample.UpTo(40)
	}
	follow[0], follow[37], follow[38], follow[39] = []int{40}, sample.UpTo(40), sample.UpTo(40), sample.UpTo(41)
	tells(t, "greatest", g, null, first, follow)
	for kinds := range 41 {
		g := api.Grammar{Names: 2, Kinds: kinds, Rules: []api.Rule{{Right: []int{0, 1}}}}
		for k := range kinds {
			g.Rules = append(g.Rules, api.Rule{Left: 1, Right: []int{-1 - k}})
		}
		tells(t, "kinds", g, []bool{false, false}, [][]int{nil, sample.UpTo(kinds)}, [][]int{sample.UpTo(kinds + 1), sample.UpTo(kinds + 1)})
		for k := range kinds {
			begins(t, g, []int{-1 - k}, []int{k}, false)
		}
	}
}

// P1101: what is told of the last name comes to the first one, whatever the order of the rules.
func TestRows(t *testing.T) {
	for _, turned := range []bool{false, true} {
		g := api.Grammar{Names: 40, Kinds: 3}
		for i := range 39 {
			g.Rules = append(g.Rules, api.Rule{Left: i, Right: []int{i + 1}})
		}
		g.Rules = append(g.Rules, api.Rule{Left: 39, Right: []int{-2}}, api.Rule{Left: 0, Right: []int{0, -3}}, api.Rule{Left: 39})
		if turned {
			slices.Reverse(g.Rules)
		}
		tells(t, "row", g, slices.Repeat([]bool{true}, 40), append([][]int{{1, 2}}, slices.Repeat([][]int{{1}}, 39)...), slices.Repeat([][]int{{2, 3}}, 40))
	}
}

// P1101: rows of symbols.
func TestFirstOf(t *testing.T) {
	for _, x := range []struct {
		l     string
		first []int
		null  bool
	}{
		{"", nil, true},
		{"A", []int{0, 2, 4}, true},
		{"B", []int{0, 2, 4}, false},
		{"D", []int{0}, true},
		{"DD", []int{0}, true},
		{"a", []int{0}, false},
		{"g", []int{6}, false},
		{"Dg", []int{0, 6}, false},
		{"gD", []int{6}, false},
		{"DDDfDDg", []int{0, 5}, false},
		{"AD", []int{0, 2, 4}, true},
		{"DA", []int{0, 2, 4}, true},
		{"Ad", []int{0, 2, 3, 4}, false},
		{"DBd", []int{0, 2, 4}, false},
		{"bBd", []int{1}, false},
	} {
		begins(t, sample.Sums(), sample.Symbols(x.l), x.first, x.null)
	}
	begins(t, api.Grammar{Names: 1}, nil, nil, true)
	begins(t, api.Grammar{Names: 1}, []int{0}, nil, false)
	dead := sample.Grammar(2, 1, "A", "Aa")
	begins(t, dead, sample.Symbols("AAB"), []int{0}, false)
	begins(t, dead, sample.Symbols("Ba"), nil, false)
	for _, n := range []int{8, 9, 64, 65, 100000} {
		begins(t, sample.Sums(), slices.Repeat(sample.Symbols("D"), n), []int{0}, true)
		begins(t, sample.Sums(), append(slices.Repeat(sample.Symbols("D"), n), -7), []int{0, 6}, false)
	}
}

// P1101: a row with a symbol that is none: nothing, and false, wherever it stands.
func TestNoSymbol(t *testing.T) {
	none := []int{4, 5, 44, 256, 1 << 32, math.MaxInt32, math.MaxInt - 1, math.MaxInt, -8, -9, -41, -257, -1 << 32, math.MinInt32, math.MinInt + 1, math.MinInt}
	for _, row := range []string{"", "D", "DDDD", "a", "aaaa", "B", "DDaBDD"} {
		for _, s := range none {
			for i := range len(row) + 1 {
				begins(t, sample.Sums(), slices.Insert(sample.Symbols(row), i, s), nil, false)
			}
		}
	}
	begins(t, sample.Sums(), none, nil, false)
	begins(t, sample.Sums(), append(slices.Repeat(sample.Symbols("D"), 100000), 4), nil, false)
	begins(t, api.Grammar{Names: 1}, []int{-1}, nil, false)
	begins(t, api.Grammar{Names: 40, Kinds: 40}, []int{-41}, nil, false)
	begins(t, api.Grammar{Names: 40, Kinds: 40}, []int{40}, nil, false)
}

// P1101: of what is no grammar nothing is told, and false.
func TestNotForm(t *testing.T) {
	for _, x := range sample.NotForm() {
		tells(t, "no grammar", x.Grammar, nil, nil, nil)
		for _, l := range [][]int{nil, {}, {0}, {3}, {-1}, {4}, {-8}, {0, -1}} {
			begins(t, x.Grammar, l, nil, false)
		}
	}
}

// P1101: how the rules weigh, what is forbidden and which classes there are turns nothing.
func TestOnlyRulesCount(t *testing.T) {
	g := sample.Sums()
	null, first, follow := sets.Nullable(g), sets.First(g), sets.Follow(g)
	g = sample.Dressed()
	tells(t, "weights, classes, what is forbidden", g, null, first, follow)
	g.Rules = append(g.Rules, g.Rules...)
	slices.Reverse(g.Rules)
	g.Forbid = nil
	tells(t, "twice, from the end", g, null, first, follow)
}
