package reach_test

import (
	"reflect"
	"slices"
	"sync"
	"testing"

	"undergrowth/api"
	"undergrowth/reach"
)

// rows is all rows of at most so many symbols that l derives by rows that are no longer.
func rows(g api.Grammar, l []int, most int) [][]int {
	all, seen := [][]int{l}, map[string]int{}
	key := func(l []int) string {
		b := make([]byte, len(l))
		for i, s := range l {
			b[i] = byte(s)
		}
		return string(b)
	}
	seen[key(l)] = 1
	for at := 0; at < len(all); at++ {
		for i, s := range all[at] {
			for _, r := range g.Rules {
				if r.Left != s || len(all[at])-1+len(r.Right) > most {
					continue
				}
				now := slices.Concat(all[at][:i], r.Right, all[at][i+1:])
				if seen[key(now)] == 0 {
					seen[key(now)] = 1
					all = append(all, now)
				}
			}
		}
	}
	return all
}

// byRows goes through all that is derived, by rows of at most so many symbols: whether a name comes up in what Start derives, and the shortest row of kinds that it derives.
func byRows(g api.Grammar, most int) ([]bool, []int) {
	to, long := make([]bool, g.Names), make([]int, g.Names)
	isName := func(s int) bool { return s >= 0 }
	for _, l := range rows(g, []int{g.Start}, most) {
		for _, s := range l {
			if s >= 0 {
				to[s] = true
			}
		}
	}
	for name := range long {
		long[name] = -1
		for _, l := range rows(g, []int{name}, most) {
			if !slices.ContainsFunc(l, isName) && (long[name] < 0 || len(l) < long[name]) {
				long[name] = len(l)
			}
		}
	}
	return to, long
}

// allRows is all rows of at most so many symbols of a grammar.
func allRows(names, kinds, most int) [][]int {
	all, last := [][]int{nil}, [][]int{nil}
	for range most {
		var longer [][]int
		for _, l := range last {
			for s := -kinds; s < names; s++ {
				longer = append(longer, append(slices.Clone(l), s))
			}
		}
		all, last = append(all, longer...), longer
	}
	return all
}

// each calls do with every grammar of at most so many of the rules.
func each(g api.Grammar, rules []api.Rule, most int, do func(g api.Grammar)) {
	do(g)
	if most == 0 {
		return
	}
	for i, r := range rules {
		with := g
		with.Rules = append(slices.Clone(g.Rules), r)
		each(with, rules[i+1:], most-1, do)
	}
}

// P1201: all grammars of two names, a kind and up to three rules of up to two symbols, held against all that they derive.
func TestAllSmallGrammars(t *testing.T) {
	var rules []api.Rule
	for _, l := range allRows(2, 1, 2) {
		rules = append(rules, api.Rule{Left: 0, Right: l}, api.Rule{Left: 1, Right: l})
	}
	each(api.Grammar{Names: 2, Kinds: 1}, rules, 3, func(g api.Grammar) {
		for g.Start = range 2 {
			to, long := byRows(g, 6)
			tells(t, "by rows", g, to, long)
		}
		if t.Failed() {
			t.Fatalf("%+v", g)
		}
	})
}

// chance is a row of numbers that seem to have no rule.
type chance uint64

// below is the next one, from 0 to n - 1.
func (c *chance) below(n int) int {
	*c = *c*6364136223846793005 + 1442695040888963407
	return int(uint64(*c)>>33) % n
}

// some is a grammar, many of whose rules are short.
func (c *chance) some(names, kinds, rules, right int) api.Grammar {
	g := api.Grammar{Names: 1 + c.below(names), Kinds: c.below(kinds + 1)}
	g.Start = c.below(g.Names)
	for range c.below(rules + 1) {
		r := api.Rule{Left: c.below(g.Names)}
		for range c.below(right + 1) {
			r.Right = append(r.Right, c.below(g.Names+g.Kinds)-g.Kinds)
		}
		g.Rules = append(g.Rules, r)
	}
	return g
}

// byPaths is the length of the shortest row that a tree has in which no name of path, and none twice on any way down, comes up; a shortest one is such a tree.
func byPaths(g api.Grammar, name int, path []int) int {
	if name < 0 {
		return 1
	}
	if slices.Contains(path, name) {
		return -1
	}
	least, path := -1, append(slices.Clone(path), name)
	for _, r := range g.Rules {
		if r.Left != name {
			continue
		}
		sum := 0
		for _, s := range r.Right {
			n := byPaths(g, s, path)
			if n < 0 {
				sum = -1
				break
			}
			sum += n
		}
		if sum >= 0 && (least < 0 || sum < least) {
			least = sum
		}
	}
	return least
}

// wayTo tells whether a name has a way of rules to another one, by no name of path.
func wayTo(g api.Grammar, from, to int, path []int) bool {
	if from == to {
		return true
	}
	path = append(slices.Clone(path), from)
	for _, r := range g.Rules {
		for _, s := range r.Right {
			if r.Left == from && s >= 0 && !slices.Contains(path, s) && wayTo(g, s, to, path) {
				return true
			}
		}
	}
	return false
}

// byWays tells the same as the calls by ways through the rules and by trees.
func byWays(g api.Grammar) ([]bool, []int) {
	var to []bool
	var long []int
	for name := range g.Names {
		to = append(to, wayTo(g, g.Start, name, nil))
		long = append(long, byPaths(g, name, nil))
	}
	return to, long
}

// P1201: many greater grammars, held against the ways and trees that they have.
func TestManyGrammars(t *testing.T) {
	next := chance(12)
	reached, dead, long := 0, 0, 0
	for range 3000 {
		g := next.some(7, 4, 14, 4)
		to, lengths := byWays(g)
		tells(t, "by ways", g, to, lengths)
		for name, n := range lengths {
			if n < 0 {
				dead++
			}
			if n > 2 {
				long++
			}
			if to[name] {
				reached++
			}
		}
		if t.Failed() {
			t.Fatalf("%+v", g)
		}
	}
	if reached < 5000 || dead < 3000 || long < 200 {
		t.Errorf("%d that are reached, %d dead, %d long, only", reached, dead, long)
	}
}

// roomy is sums, each list with spare room.
func roomy() api.Grammar {
	g := sums()
	for i, r := range g.Rules {
		g.Rules[i].Right = append(slices.Clone(r.Right), 7, 8, 9)[:len(r.Right)]
	}
	g.Rules = append(g.Rules, api.Rule{Left: 7, Right: []int{5}}, api.Rule{Left: 8})[:9]
	g.Forbid = [][3]int{{1, 1, 2}, {7, 7, 7}}[:1]
	g.RuleClass, g.KindClass = []int{1, 2, 333}[:2], []int{3, 4, 555}[:2]
	return g
}

// spread is g with the spare room of its lists.
func spread(g api.Grammar) api.Grammar {
	g.Rules = slices.Clone(g.Rules[:cap(g.Rules)])
	for i, r := range g.Rules {
		g.Rules[i].Right = r.Right[:cap(r.Right)]
	}
	g.Forbid = g.Forbid[:cap(g.Forbid)]
	g.RuleClass = g.RuleClass[:cap(g.RuleClass)]
	g.KindClass = g.KindClass[:cap(g.KindClass)]
	return g
}

// P1202: what is handed in stays as it is, its spare room too.
func TestHandedInStays(t *testing.T) {
	g, was := roomy(), spread(roomy())
	tells(t, "roomy", g, only(4, 0, 1, 2, 3), []int{0, 1, 1, 0})
	if now := spread(g); !reflect.DeepEqual(now, was) {
		t.Errorf("what is handed in: %+v; was %+v", now, was)
	}
	for _, g := range notForm() {
		was := g
		was.Rules = slices.Clone(g.Rules)
		tells(t, "no grammar", g, nil, nil)
		if !reflect.DeepEqual(g, was) {
			t.Errorf("what is handed in: %+v; was %+v", g, was)
		}
	}
}

// P1202: what is told is new memory: what is done to it turns nothing that is told of it later.
func TestAnswersAreNew(t *testing.T) {
	g := gram(4, 2, "AB", "BbC", "Ba", "CC", "DA", "Da")
	to, long := []bool{true, true, true, false}, []int{1, 1, -1, 1}
	for range 3 {
		tells(t, "anew", g, to, long)
		for _, l := range [][]bool{reach.Reachable(g), reach.Productive(g)} {
			for i := range l[:cap(l)] {
				l[:cap(l)][i] = i%2 == 1
			}
		}
		l := reach.Shortest(g)
		for i := range l[:cap(l)] {
			l[:cap(l)][i] = 99
		}
	}
}

// P1202: what is told hangs on the arguments alone: one grammar that is turned is gone through anew each time, and who asks beside turns nothing.
func TestNothingIsKept(t *testing.T) {
	g := gram(3, 2, "AaB", "Bbb", "CA")
	for range 3 {
		tells(t, "as it was", g, only(3, 0, 1), []int{3, 2, 3})
		g.Rules[1].Right[0] = 2
		tells(t, "a symbol turned", g, only(3, 0, 1, 2), []int{-1, -1, -1})
		g.Rules[1].Right[0] = -2
		g.Start = 5
		tells(t, "none", g, nil, nil)
		g.Start = 0
	}
	next := chance(1202)
	var all []api.Grammar
	var to [][]bool
	var long [][]int
	for range 20 {
		g := next.some(7, 4, 14, 4)
		a, b := byWays(g)
		all, to, long = append(all, g), append(to, a), append(long, b)
	}
	var group sync.WaitGroup
	for k := range 4 {
		group.Go(func() {
			for i := range 200 {
				n := (i + 7*k) % len(all)
				tells(t, "one of many", all[n], to[n], long[n])
			}
		})
	}
	group.Wait()
}
