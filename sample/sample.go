// Package sample makes the grammars that the tests of several layers go
// through. No layer of the program calls it.
package sample

import (
	"slices"

	"undergrowth/api"
)

// Grammar is one of rules written as texts: the name, and what it comes to;
// capitals are names from A on, other letters kinds from a on.
func Grammar(names, kinds int, rules ...string) api.Grammar {
	g := api.Grammar{Names: names, Kinds: kinds}
	for _, s := range rules {
		l := Symbols(s)
		g.Rules = append(g.Rules, api.Rule{Left: l[0], Right: l[1:]})
	}
	return g
}

// Symbols is a row of symbols, written as in Grammar.
func Symbols(s string) []int {
	l := make([]int, len(s))
	for i, c := range []byte(s) {
		if l[i] = int(c) - 'A'; c >= 'a' {
			l[i] = -1 - (int(c) - 'a')
		}
	}
	return l
}

// Sums is lists of sums: of the names list, sum, term and sign, and of the
// kinds + * ( ) x ; and one of no use.
func Sums() api.Grammar {
	return Grammar(4, 7, "A", "AABf", "BBaC", "BC", "CCbC", "CDcBd", "Ce", "D", "Da")
}

// Dressed is Sums with weights, classes and what is forbidden.
func Dressed() api.Grammar {
	g := Sums()
	g.Forbid = [][3]int{{1, 1, 2}, {1, 1, 3}, {2, 2, 4}, {5, 0, 7}, {5, 0, 8}, {5, 2, 3}}
	g.RuleClass, g.KindClass = UpTo(len(g.Rules)), []int{100, 0, 5}
	for i := range g.Rules {
		g.Rules[i].Dyn = 1000 - 250*i
	}
	return g
}

// Wide is a grammar of many states: behind `j` and `k` a row of any `a` and `b`
// may follow, in which an `a` stands ten and eight places ahead of the end, so
// there is a state for each way in which `a` and `b` can stand in the last
// places. Further rules, with so many symbols in all, make a state a symbol.
func Wide(more int) api.Grammar {
	g := api.Grammar{Names: 13, Kinds: api.MaxKinds}
	rule := func(left int, right ...int) { g.Rules = append(g.Rules, api.Rule{Left: left, Right: right}) }
	for name := 1; name < 10; name++ {
		rule(name, -1, name+1)
		rule(name, -2, name+1)
	}
	rule(10, -1)
	for i, first := range []int{1, 3} {
		name := 11 + i
		rule(0, -10-i, name)
		rule(name, -1, name)
		rule(name, -2, name)
		rule(name, -1, first)
	}
	for kind := 12; more > 0; kind++ {
		n := min(more, api.MaxRight)
		rule(0, slices.Repeat([]int{-1 - kind}, n)...)
		more -= n
	}
	return g
}

// Rows is all rows of at most so many symbols of a grammar.
func Rows(names, kinds, most int) [][]int {
	all, last := [][]int{nil}, [][]int{nil}
	for range most {
		var longer [][]int
		for _, l := range last {
			for s := -kinds; s < names; s++ {
				longer = append(longer, append(slices.Clone(l), s))
			}
		}
		all, last = append(all, longer...), longer
	}
	return all
}

// Small calls do with every grammar of two names, a kind and up to three rules
// of up to two symbols.
func Small(do func(g api.Grammar)) {
	var rules []api.Rule
	for _, l := range Rows(2, 1, 2) {
		rules = append(rules, api.Rule{Left: 0, Right: l}, api.Rule{Left: 1, Right: l})
	}
	each(api.Grammar{Names: 2, Kinds: 1}, rules, 3, do)
}

// each calls do with g and with every grammar that has up to so many of the
// rules besides.
func each(g api.Grammar, rules []api.Rule, most int, do func(g api.Grammar)) {
	do(g)
	if most == 0 {
		return
	}
	for i, r := range rules {
		with := g
		with.Rules = append(slices.Clone(g.Rules), r)
		each(with, rules[i+1:], most-1, do)
	}
}

// UpTo is the numbers from 0 to n - 1.
func UpTo(n int) []int {
	l := make([]int, n)
	for i := range l {
		l[i] = i
	}
	return l
}

// Walk goes through the states of an automaton by a row of symbols and answers
// where it ends: -1 if it leads nowhere.
func Walk(l []api.State, row []int) int {
	at := 0
	for _, s := range row {
		i := slices.Index(l[at].Syms, s)
		if i < 0 {
			return -1
		}
		at = l[at].To[i]
	}
	return at
}
