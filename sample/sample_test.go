package sample_test

import (
	"reflect"
	"slices"
	"testing"

	"undergrowth/api"
	"undergrowth/cycle"
	"undergrowth/grammar"
	"undergrowth/items"
	"undergrowth/sample"
)

func TestSums(t *testing.T) {
	g := sample.Sums()
	if at, e := cycle.Check(g); e != api.OK {
		t.Errorf("%d, %d", at, e)
	}
	if r := g.Rules[5]; r.Left != 2 || !slices.Equal(r.Right, []int{3, -3, 1, -4}) {
		t.Errorf("%v", r)
	}
}

func TestDressed(t *testing.T) {
	g := sample.Dressed()
	if at, e := grammar.Form(g); e != api.OK {
		t.Errorf("%d, %d", at, e)
	}
	g.Forbid, g.RuleClass, g.KindClass = nil, nil, nil
	for i := range g.Rules {
		g.Rules[i].Dyn = 0
	}
	if want := sample.Sums(); !reflect.DeepEqual(g, want) {
		t.Errorf("%+v; want %+v", g, want)
	}
}

func TestWalk(t *testing.T) {
	l, _ := items.States(sample.Grammar(1, 2, "AAaA", "Ab"))
	for row, want := range map[string]int{"": 0, "b": 1, "A": 2, "Aa": 3, "Aab": 1, "AaAaA": 4, "a": -1, "bb": -1, "Aaa": -1} {
		if at := sample.Walk(l, sample.Symbols(row)); at != want {
			t.Errorf("%q leads to %d; want %d", row, at, want)
		}
	}
}

func TestNotForm(t *testing.T) {
	for i, x := range sample.NotForm() {
		if at, e := grammar.Form(x.Grammar); at != x.At || e != x.Err || e == api.OK {
			t.Errorf("%d: %d, %d; want %d, %d", i, at, e, x.At, x.Err)
		}
	}
}

func TestWide(t *testing.T) {
	base, e := items.States(sample.Wide(0))
	if e != api.OK || len(base) < api.MaxItems-200 {
		t.Fatalf("%d states, %d", len(base), e)
	}
	for more := range 20 {
		if l, e := items.States(sample.Wide(more)); e != api.OK || len(l) != len(base)+more {
			t.Errorf("%d more: %d states, %d", more, len(l), e)
		}
	}
}

// All grammars of two names, a kind and up to three rules of up to two symbols: of 26 rules, three at most.
func TestSmall(t *testing.T) {
	seen := map[string]int{}
	sample.Small(func(g api.Grammar) {
		var key []byte
		for _, r := range g.Rules {
			key = append(append(key, byte(r.Left)), byte(len(r.Right)))
			for _, s := range r.Right {
				key = append(key, byte(s))
			}
		}
		seen[string(key)]++
		if _, e := grammar.Form(g); e != api.OK || g.Names != 2 || g.Kinds != 1 {
			t.Errorf("%d: %+v", e, g)
		}
	})
	if want := 1 + 26 + 26*25/2 + 26*25*24/6; len(seen) != want {
		t.Errorf("%d grammars; want %d", len(seen), want)
	}
}

func TestChance(t *testing.T) {
	a, b := sample.Chance(5), sample.Chance(5)
	for range 100 {
		g := a.Grammar(5, 3, 9, 4)
		if at, e := grammar.Form(g); e != api.OK || !reflect.DeepEqual(g, b.Grammar(5, 3, 9, 4)) {
			t.Fatalf("%d, %d: %+v", at, e, g)
		}
		g = a.Great()
		if at, e := cycle.Check(g); e != api.OK || len(g.Rules) != api.MaxRules || !reflect.DeepEqual(g, b.Great()) {
			t.Fatalf("%d, %d: %+v", at, e, g)
		}
	}
}

func TestRoom(t *testing.T) {
	g := sample.Roomy()
	if at, e := grammar.Form(g); e != api.OK || len(g.Rules) != len(sample.Sums().Rules) {
		t.Fatalf("%d, %d: %+v", at, e, g)
	}
	was := sample.Spread(sample.Roomy())
	for i := range was.Rules {
		now := sample.Roomy()
		rules := now.Rules[:cap(now.Rules)]
		sample.Spoil(rules[i].Right[:0], 99)
		if cap(rules[i].Right) > 0 && reflect.DeepEqual(sample.Spread(now), was) {
			t.Errorf("rule %d: what is spoiled is not told", i)
		}
	}
}
