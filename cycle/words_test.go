package cycle_test

import (
	"reflect"
	"slices"
	"sync"
	"testing"

	"undergrowth/api"
	"undergrowth/cycle"
	"undergrowth/reach"
)

// steps is all rows of at most so many symbols that come of l in one step.
func steps(g api.Grammar, l []int, most int) [][]int {
	var all [][]int
	for i, s := range l {
		for _, r := range g.Rules {
			if r.Left == s && len(l)-1+len(r.Right) <= most {
				all = append(all, slices.Concat(l[:i], r.Right, l[i+1:]))
			}
		}
	}
	return all
}

// byRows tells whether a name derives itself alone in one step or more, by rows of at most so many symbols.
func byRows(g api.Grammar, name, most int) bool {
	all, seen := steps(g, []int{name}, most), map[string]int{}
	key := func(l []int) string {
		b := make([]byte, len(l))
		for i, s := range l {
			b[i] = byte(s)
		}
		return string(b)
	}
	for at := 0; at < len(all); at++ {
		if len(all[at]) == 1 && all[at][0] == name {
			return true
		}
		for _, l := range steps(g, all[at], most) {
			if seen[key(l)] == 0 {
				seen[key(l)] = 1
				all = append(all, l)
			}
		}
	}
	return false
}

// finds is what Check finds in a grammar in which these names run in circles, by the words of the document.
func finds(g api.Grammar, circles []bool) (int, api.Errno) {
	to, ends := reach.Reachable(g), reach.Productive(g)
	at, e := -1, api.OK
	for name := g.Names - 1; name >= 0; name-- {
		switch {
		case !to[name] || !ends[name]:
			at, e = name, api.ErrUseless
		case circles[name] && e != api.ErrUseless:
			at, e = name, api.ErrCycle
		}
	}
	return at, e
}

// allRows is all rows of at most so many symbols of a grammar.
func allRows(names, kinds, most int) [][]int {
	all, last := [][]int{nil}, [][]int{nil}
	for range most {
		var longer [][]int
		for _, l := range last {
			for s := -kinds; s < names; s++ {
				longer = append(longer, append(slices.Clone(l), s))
			}
		}
		all, last = append(all, longer...), longer
	}
	return all
}

// each calls do with every grammar of at most so many of the rules.
func each(g api.Grammar, rules []api.Rule, most int, do func(g api.Grammar)) {
	do(g)
	if most == 0 {
		return
	}
	for i, r := range rules {
		with := g
		with.Rules = append(slices.Clone(g.Rules), r)
		each(with, rules[i+1:], most-1, do)
	}
}

// P1301: all grammars of two names, a kind and up to three rules of up to two symbols, held against all that they derive.
func TestAllSmallGrammars(t *testing.T) {
	var rules []api.Rule
	for _, l := range allRows(2, 1, 2) {
		rules = append(rules, api.Rule{Left: 0, Right: l}, api.Rule{Left: 1, Right: l})
	}
	told := map[api.Errno]int{}
	each(api.Grammar{Names: 2, Kinds: 1}, rules, 3, func(g api.Grammar) {
		circles := []bool{byRows(g, 0, 5), byRows(g, 1, 5)}
		for g.Start = range 2 {
			at, e := finds(g, circles)
			tells(t, "by rows", g, circles, at, e)
			told[e]++
		}
		if t.Failed() {
			t.Fatalf("%+v", g)
		}
	})
	if told[api.OK] < 100 || told[api.ErrUseless] < 100 || told[api.ErrCycle] < 100 {
		t.Errorf("not of all kinds: %v", told)
	}
}

// chance is a row of numbers that seem to have no rule.
type chance uint64

// below is the next one, from 0 to n - 1.
func (c *chance) below(n int) int {
	*c = *c*6364136223846793005 + 1442695040888963407
	return int(uint64(*c)>>33) % n
}

// some is a grammar, many of whose rules are short.
func (c *chance) some(names, kinds, rules, right int) api.Grammar {
	g := api.Grammar{Names: 1 + c.below(names), Kinds: c.below(kinds + 1)}
	g.Start = c.below(g.Names)
	for range c.below(rules + 1) {
		r := api.Rule{Left: c.below(g.Names)}
		for range c.below(right + 1) {
			r.Right = append(r.Right, c.below(g.Names+g.Kinds)-g.Kinds)
		}
		g.Rules = append(g.Rules, r)
	}
	return g
}

// vanishes tells whether a symbol has a tree without leaves, in which no name stands twice on any way down, nor one of path.
func vanishes(g api.Grammar, s int, path []int) bool {
	if s < 0 || slices.Contains(path, s) {
		return false
	}
	path = append(slices.Clone(path), s)
	for _, r := range g.Rules {
		stays := func(s int) bool { return !vanishes(g, s, path) }
		if r.Left == s && !slices.ContainsFunc(r.Right, stays) {
			return true
		}
	}
	return false
}

// comesTo tells whether a name derives another one alone, in one step or more, by no name of path.
func comesTo(g api.Grammar, from, to int, path []int) bool {
	path = append(slices.Clone(path), from)
	for _, r := range g.Rules {
		if r.Left != from {
			continue
		}
		for i, s := range r.Right {
			stays := func(s int) bool { return !vanishes(g, s, nil) }
			beside := slices.Concat(r.Right[:i], r.Right[i+1:])
			if s < 0 || slices.ContainsFunc(beside, stays) {
				continue
			}
			if s == to || !slices.Contains(path, s) && comesTo(g, s, to, path) {
				return true
			}
		}
	}
	return false
}

// byTrees tells of each name whether it runs in circles, by trees.
func byTrees(g api.Grammar) []bool {
	var l []bool
	for name := range g.Names {
		l = append(l, comesTo(g, name, name, nil))
	}
	return l
}

// P1301: many greater grammars, held against the trees that they have.
func TestManyGrammars(t *testing.T) {
	next := chance(13)
	told, inCircles, out := map[api.Errno]int{}, 0, 0
	for range 4000 {
		g := next.some(6, 4, 14, 3)
		circles := byTrees(g)
		at, e := finds(g, circles)
		tells(t, "by trees", g, circles, at, e)
		told[e]++
		for _, c := range circles {
			if c {
				inCircles++
			} else {
				out++
			}
		}
		if t.Failed() {
			t.Fatalf("%+v", g)
		}
	}
	if told[api.OK] < 100 || told[api.ErrUseless] < 100 || told[api.ErrCycle] < 100 || inCircles < 500 || out < 500 {
		t.Errorf("not of all kinds: %v, %d in circles, %d not", told, inCircles, out)
	}
}

// roomy is sums, each list with spare room.
func roomy() api.Grammar {
	g := sums()
	for i, r := range g.Rules {
		g.Rules[i].Right = append(slices.Clone(r.Right), 7, 8, 9)[:len(r.Right)]
	}
	g.Rules = append(g.Rules, api.Rule{Left: 7, Right: []int{5}}, api.Rule{Left: 8})[:9]
	g.Forbid = [][3]int{{1, 1, 2}, {7, 7, 7}}[:1]
	g.RuleClass, g.KindClass = []int{1, 2, 333}[:2], []int{3, 4, 555}[:2]
	return g
}

// spread is g with the spare room of its lists.
func spread(g api.Grammar) api.Grammar {
	g.Rules = slices.Clone(g.Rules[:cap(g.Rules)])
	for i, r := range g.Rules {
		g.Rules[i].Right = r.Right[:cap(r.Right)]
	}
	g.Forbid = g.Forbid[:cap(g.Forbid)]
	g.RuleClass = g.RuleClass[:cap(g.RuleClass)]
	g.KindClass = g.KindClass[:cap(g.KindClass)]
	return g
}

// P1302: what is handed in stays as it is, its spare room too.
func TestHandedInStays(t *testing.T) {
	g, was := roomy(), spread(roomy())
	tells(t, "roomy", g, only(4), -1, api.OK)
	if now := spread(g); !reflect.DeepEqual(now, was) {
		t.Errorf("what is handed in: %+v; was %+v", now, was)
	}
	for _, x := range notForm() {
		was := x.g
		was.Rules = slices.Clone(x.g.Rules)
		tells(t, "no grammar", x.g, nil, x.at, x.e)
		if !reflect.DeepEqual(x.g, was) {
			t.Errorf("what is handed in: %+v; was %+v", x.g, was)
		}
	}
}

// P1302: what is told is new memory: what is done to it turns nothing that is told of it later.
func TestAnswersAreNew(t *testing.T) {
	g := gram(4, 2, "AaB", "BC", "CB", "Ca", "BD", "Db")
	for range 3 {
		tells(t, "anew", g, only(4, 1, 2), 1, api.ErrCycle)
		l := cycle.Cyclic(g)
		for i := range l[:cap(l)] {
			l[:cap(l)][i] = i%2 == 0
		}
	}
}

// P1302: what is told hangs on the arguments alone: one grammar that is turned is gone through anew each time, and who asks beside turns nothing.
func TestNothingIsKept(t *testing.T) {
	g := gram(2, 2, "AaB", "Bbb", "BA")
	for range 3 {
		tells(t, "as it was", g, only(2), -1, api.OK)
		g.Rules[0].Right[0] = 1
		tells(t, "a symbol turned", g, only(2), -1, api.OK)
		g.Rules[1].Right = nil
		tells(t, "two turned", g, only(2, 0, 1), 0, api.ErrCycle)
		g.Rules[0].Right[0], g.Rules[1].Right = -1, []int{-2, -2}
		g.Start = 5
		tells(t, "none", g, nil, -1, api.ErrName)
		g.Start = 0
	}
	next := chance(1302)
	var all []api.Grammar
	var circles [][]bool
	for range 20 {
		g := next.some(6, 4, 14, 3)
		all, circles = append(all, g), append(circles, byTrees(g))
	}
	var group sync.WaitGroup
	for k := range 4 {
		group.Go(func() {
			for i := range 200 {
				n := (i + 7*k) % len(all)
				at, e := finds(all[n], circles[n])
				tells(t, "one of many", all[n], circles[n], at, e)
			}
		})
	}
	group.Wait()
}
