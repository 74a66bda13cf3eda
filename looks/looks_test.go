package looks_test

import (
	"math"
	"slices"
	"testing"

	"undergrowth/api"
	"undergrowth/items"
	"undergrowth/looks"
	"undergrowth/sample"
)

// look is one.
func look(rule int, kinds ...int) api.Look { return api.Look{Rule: rule, Kinds: kinds} }

// row is what is told of one state.
func row(l ...api.Look) []api.Look { return l }

// same tells whether the same is told of each state; nil is as an empty list.
func same(a, b [][]api.Look) bool {
	isLook := func(x, y api.Look) bool { return x.Rule == y.Rule && slices.Equal(x.Kinds, y.Kinds) }
	return slices.EqualFunc(a, b, func(x, y []api.Look) bool { return slices.EqualFunc(x, y, isLook) })
}

// tells looks at what Of tells.
func tells(t *testing.T, what string, g api.Grammar, want [][]api.Look, e api.Errno) {
	t.Helper()
	if got, gotE := looks.Of(g); !same(got, want) || gotE != e {
		t.Errorf("%s: Of: %v, %d; want %v, %d", what, got, gotE, want, e)
	}
}

// behind looks at what Of tells of the state that a row of symbols leads to.
func behind(t *testing.T, g api.Grammar, ahead string, want ...api.Look) {
	t.Helper()
	states, _ := items.States(g)
	l, e := looks.Of(g)
	at := sample.Walk(states, sample.Symbols(ahead))
	if e != api.OK || at < 0 || at >= len(l) {
		t.Fatalf("behind %q: state %d of %d, %d", ahead, at, len(l), e)
	}
	if !same(l[at:at+1], [][]api.Look{want}) {
		t.Errorf("behind %q: %v; want %v", ahead, l[at], want)
	}
}

// P1501: grammars as they are.
func TestGrammars(t *testing.T) {
	for _, x := range []struct {
		what string
		g    api.Grammar
		want [][]api.Look
	}{
		{"nothing, without kinds", sample.Grammar(1, 0, "A"), [][]api.Look{row(look(0, 0)), row(look(-1, 0))}},
		{"a kind", sample.Grammar(1, 1, "Aa"), [][]api.Look{nil, row(look(0, 1)), row(look(-1, 1))}},
		{"the last one of more kinds", sample.Grammar(1, 3, "Aa"), [][]api.Look{nil, row(look(0, 3)), row(look(-1, 3))}},
		{"one, twice", sample.Grammar(1, 1, "Aa", "Aa"), [][]api.Look{nil, row(look(0, 1), look(1, 1)), row(look(-1, 1))}},
		{"brackets", sample.Grammar(1, 2, "AaAbA", "A"), [][]api.Look{row(look(1, 2)), row(look(1, 1)), row(look(-1, 2)), nil, row(look(1, 1, 2)), row(look(0, 1, 2))}},
		{"sums of any shape", sample.Grammar(1, 2, "AAaA", "Ab"), [][]api.Look{nil, row(look(1, 0, 2)), row(look(-1, 2)), nil, row(look(0, 0, 2))}},
		{"a list from the right", sample.Grammar(1, 1, "AaA", "A"), [][]api.Look{row(look(1, 1)), row(look(1, 1)), row(look(-1, 1)), row(look(0, 1))}},
		{"a list from the left", sample.Grammar(1, 1, "AAa", "A"), [][]api.Look{row(look(1, 0, 1)), row(look(-1, 1)), row(look(0, 0, 1))}},
		{"sums of products", sample.Grammar(3, 5, "AAaB", "AB", "BBbC", "BC", "CcAd", "Ce"), [][]api.Look{
			nil, row(look(5, 0, 1, 3, 5)), nil, row(look(-1, 5)), row(look(1, 0, 3, 5)), row(look(3, 0, 1, 3, 5)), nil, nil, nil,
			row(look(4, 0, 1, 3, 5)), row(look(0, 0, 3, 5)), row(look(2, 0, 1, 3, 5)),
		}},
	} {
		tells(t, x.what, x.g, x.want, api.OK)
	}
}

// P1501: what may come behind a name elsewhere does not count, only what may come behind it where the state stands.
func TestNotAllThatFollows(t *testing.T) {
	g := sample.Grammar(2, 4, "ABa", "AbBc", "Adc", "Abda", "Bd")
	behind(t, g, "d", look(4, 0))
	behind(t, g, "dc", look(2, 4))
	behind(t, g, "bd", look(4, 2))
	behind(t, g, "bda", look(3, 4))
	behind(t, g, "B")
	behind(t, g, "Ba", look(0, 4))
	behind(t, g, "bBc", look(1, 4))
	behind(t, g, "A", look(-1, 4))
}

// P1501: nor does what may come in the state behind a name, if other states lead there, too: that would make one of the `c` and `d` here.
func TestNotAllThatLeadsThere(t *testing.T) {
	g := sample.Grammar(3, 5, "Aaed", "AaBc", "AbBd", "Abec", "BC", "Ce")
	behind(t, g, "ae", look(5, 2))
	behind(t, g, "be", look(5, 3))
	behind(t, g, "aC", look(4, 2, 3))
	behind(t, g, "bC", look(4, 2, 3))
	behind(t, g, "aBc", look(1, 5))
}

// P1501: canonical states with the same items tell their kinds all together.
func TestAllTogether(t *testing.T) {
	g := sample.Grammar(3, 6, "AaBb", "AcCb", "AaCd", "AcBd", "Be", "Ce")
	behind(t, g, "ae", look(4, 1, 3), look(5, 1, 3))
	behind(t, g, "ce", look(4, 1, 3), look(5, 1, 3))
	behind(t, g, "aB")
	behind(t, g, "aBb", look(0, 6))
	g = sample.Grammar(2, 5, "AaBa", "AbBb", "AcB", "BdBe", "B")
	behind(t, g, "a", look(4, 0))
	behind(t, g, "b", look(4, 1))
	behind(t, g, "c", look(4, 5))
	behind(t, g, "ad", look(4, 4))
	behind(t, g, "adBe", look(3, 0, 1, 4, 5))
	behind(t, g, "cddBe", look(3, 0, 1, 4, 5))
}

// P1501: behind a name that is the last one, or has only what derives nothing behind it, comes what comes behind all of it, any number of names up.
func TestBehindTheLast(t *testing.T) {
	g := sample.Grammar(6, 4, "ABa", "ABb", "BcC", "CD", "DdEF", "E", "Ed", "F", "Fc")
	behind(t, g, "cd", look(5, 0, 1, 2))
	behind(t, g, "cdE", look(7, 0, 1))
	behind(t, g, "cdd", look(6, 0, 1, 2))
	behind(t, g, "cdEc", look(8, 0, 1))
	behind(t, g, "cdEF", look(4, 0, 1))
	behind(t, g, "cD", look(3, 0, 1))
	behind(t, g, "cC", look(2, 0, 1))
	behind(t, g, "c")
	behind(t, g, "Ba", look(0, 4))
}

// P1501: what derives nothing may begin with something: both count.
func TestVanishing(t *testing.T) {
	tells(t, "three that may be nothing", sample.Grammar(4, 3, "ABCD", "Ba", "B", "Cb", "C", "Dc", "D"), [][]api.Look{
		row(look(2, 1, 2, 3)), row(look(1, 1, 2, 3)), row(look(-1, 3)), row(look(4, 2, 3)),
		row(look(3, 2, 3)), row(look(6, 3)), row(look(5, 3)), row(look(0, 3)),
	}, api.OK)
	tells(t, "three that are nothing", sample.Grammar(4, 1, "ABCDa", "B", "C", "D"), [][]api.Look{
		row(look(1, 0)), row(look(-1, 1)), row(look(2, 0)), row(look(3, 0)), nil, row(look(0, 1)),
	}, api.OK)
}

// P1501: a rule's name may stand for Start, whichever name that is; the rule -1 has the end behind it, and no kind.
func TestStart(t *testing.T) {
	g := sample.Grammar(2, 2, "AaBb", "BbA", "A")
	tells(t, "the first one", g, [][]api.Look{
		row(look(2, 2)), nil, row(look(-1, 2)), row(look(2, 1)), nil, row(look(1, 1)), row(look(0, 1, 2)),
	}, api.OK)
	g.Start = 1
	tells(t, "the other one", g, [][]api.Look{
		nil, row(look(2, 1, 2)), row(look(-1, 2)), nil, row(look(1, 1, 2)), nil, row(look(0, 1, 2)),
	}, api.OK)
	behind(t, sample.Grammar(1, 1, "AAa", "Aa"), "A", look(-1, 1))
	behind(t, sample.Grammar(2, 2, "ABa", "B", "BbA"), "bA", look(2, 0))
}

// P1501: as many kinds as may be, and the end behind them.
func TestAllKinds(t *testing.T) {
	g := api.Grammar{Names: 1, Kinds: 40}
	for k := range 40 {
		g.Rules = append(g.Rules, api.Rule{Right: []int{0, -1 - k}})
	}
	g.Rules = append(g.Rules, api.Rule{})
	all := sample.UpTo(41)
	want := [][]api.Look{row(look(40, all...)), row(look(-1, 40))}
	for k := range 40 {
		want = append(want, row(look(39-k, all...)))
	}
	tells(t, "a list of all kinds", g, want, api.OK)
	tells(t, "the last kind", api.Grammar{Names: 2, Kinds: 40, Rules: []api.Rule{{Right: []int{1, -40}}, {Left: 1}}}, [][]api.Look{
		row(look(1, 39)), row(look(-1, 40)), nil, row(look(0, 40)),
	}, api.OK)
}

// P1501: as many names as may be, each alone in the one ahead of it, from the last one to the first or from the first one to the last.
func TestAllNames(t *testing.T) {
	down, up := api.Grammar{Names: 40, Kinds: 2}, api.Grammar{Names: 40, Kinds: 2, Start: 39}
	wantDown, wantUp := [][]api.Look{nil, row(look(39, 2)), row(look(-1, 2))}, [][]api.Look{nil, row(look(39, 2))}
	for i := range 39 {
		down.Rules = append(down.Rules, api.Rule{Left: i, Right: []int{i + 1}})
		up.Rules = append(up.Rules, api.Rule{Left: i + 1, Right: []int{i}})
		wantDown, wantUp = append(wantDown, row(look(i, 2))), append(wantUp, row(look(i, 2)))
	}
	down.Rules = append(down.Rules, api.Rule{Left: 39, Right: []int{-2}})
	up.Rules = append(up.Rules, api.Rule{Left: 0, Right: []int{-2}})
	tells(t, "down", down, wantDown, api.OK)
	tells(t, "up", up, append(wantUp, row(look(-1, 2))), api.OK)
}

// P1501: as many rules as may be that are nothing, all of one name; and the longest rule.
func TestAllRules(t *testing.T) {
	g := api.Grammar{Names: 1, Kinds: 1, Rules: make([]api.Rule, 60)}
	want := [][]api.Look{nil, row(look(-1, 1))}
	for i := range 60 {
		want[0] = append(want[0], look(i, 1))
	}
	tells(t, "nothing, sixty times", g, want, api.OK)
	g = sample.Grammar(2, 2, "ABBBBBBBB", "B", "Bb")
	behind(t, g, "BBBBBBB", look(1, 2))
	behind(t, g, "BBBBBBBB", look(0, 2))
	behind(t, g, "BBBBBB", look(1, 1, 2))
	behind(t, g, "BBBBBBBb", look(2, 1, 2))
}

// P1501: items.States' error is told, and nothing beside it.
func TestErrors(t *testing.T) {
	for _, x := range []struct {
		what string
		g    api.Grammar
		e    api.Errno
	}{
		{"zero", api.Grammar{}, api.ErrLong},
		{"no rules", sample.Grammar(1, 0), api.ErrUseless},
		{"one that Start does not come to", sample.Grammar(2, 1, "Aa", "Ba"), api.ErrUseless},
		{"no end", sample.Grammar(1, 1, "AaA"), api.ErrUseless},
		{"a circle", sample.Grammar(1, 1, "AA", "Aa"), api.ErrCycle},
		{"a circle by nothing", sample.Grammar(2, 1, "ABA", "Aa", "B"), api.ErrCycle},
		{"a kind that is none", sample.Grammar(1, 1, "Ab"), api.ErrName},
		{"too heavy", api.Grammar{Names: 1, Rules: []api.Rule{{Dyn: math.MaxInt}}}, api.ErrArg},
		{"too many states", sample.Wide(200), api.ErrLong},
	} {
		if _, e := items.States(x.g); e != x.e {
			t.Fatalf("%s: States: %d", x.what, e)
		}
		tells(t, x.what, x.g, nil, x.e)
	}
	for _, x := range sample.NotForm() {
		tells(t, "no grammar", x.Grammar, nil, x.Err)
	}
}

// P1501: how the rules weigh, what is forbidden and which classes there are turns nothing.
func TestOnlyRulesCount(t *testing.T) {
	g := sample.Sums()
	want, e := looks.Of(g)
	if e != api.OK || len(want) != 15 {
		t.Fatalf("Of: %v, %d", want, e)
	}
	g = sample.Dressed()
	tells(t, "weights, classes, what is forbidden", g, want, api.OK)
}
