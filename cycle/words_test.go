package cycle_test

import (
	"reflect"
	"slices"
	"sync"
	"testing"

	"undergrowth/api"
	"undergrowth/cycle"
	"undergrowth/reach"
	"undergrowth/sample"
)

// steps is all rows of at most so many symbols that come of l in one step.
func steps(g api.Grammar, l []int, most int) [][]int {
	var all [][]int
	for i, s := range l {
		for _, r := range g.Rules {
			if r.Left == s && len(l)-1+len(r.Right) <= most {
				all = append(all, slices.Concat(l[:i], r.Right, l[i+1:]))
			}
		}
	}
	return all
}

// byRows tells whether a name derives itself alone in one step or more, by rows of at most so many symbols.
func byRows(g api.Grammar, name, most int) bool {
	all, seen := steps(g, []int{name}, most), map[string]int{}
	key := func(l []int) string {
		b := make([]byte, len(l))
		for i, s := range l {
			b[i] = byte(s)
		}
		return string(b)
	}
	for at := 0; at < len(all); at++ {
		if len(all[at]) == 1 && all[at][0] == name {
			return true
		}
		for _, l := range steps(g, all[at], most) {
			if seen[key(l)] == 0 {
				seen[key(l)] = 1
				all = append(all, l)
			}
		}
	}
	return false
}

// finds is what Check finds in a grammar in which these names run in circles, by the words of the document.
func finds(g api.Grammar, circles []bool) (int, api.Errno) {
	to, ends := reach.Reachable(g), reach.Productive(g)
	at, e := -1, api.OK
	for name := g.Names - 1; name >= 0; name-- {
		switch {
		case !to[name] || !ends[name]:
			at, e = name, api.ErrUseless
		case circles[name] && e != api.ErrUseless:
			at, e = name, api.ErrCycle
		}
	}
	return at, e
}

// P1301: all grammars of two names, a kind and up to three rules of up to two symbols, held against all that they derive.
func TestAllSmallGrammars(t *testing.T) {
	told := map[api.Errno]int{}
	sample.Small(func(g api.Grammar) {
		circles := []bool{byRows(g, 0, 5), byRows(g, 1, 5)}
		for g.Start = range 2 {
			at, e := finds(g, circles)
			tells(t, "by rows", g, circles, at, e)
			told[e]++
		}
		if t.Failed() {
			t.Fatalf("%+v", g)
		}
	})
	if told[api.OK] < 100 || told[api.ErrUseless] < 100 || told[api.ErrCycle] < 100 {
		t.Errorf("not of all kinds: %v", told)
	}
}

// vanishes tells whether a symbol has a tree without leaves, in which no name stands twice on any way down, nor one of path.
func vanishes(g api.Grammar, s int, path []int) bool {
	if s < 0 || slices.Contains(path, s) {
		return false
	}
	path = append(slices.Clone(path), s)
	for _, r := range g.Rules {
		stays := func(s int) bool { return !vanishes(g, s, path) }
		if r.Left == s && !slices.ContainsFunc(r.Right, stays) {
			return true
		}
	}
	return false
}

// comesTo tells whether a name derives another one alone, in one step or more, by no name of path.
func comesTo(g api.Grammar, from, to int, path []int) bool {
	path = append(slices.Clone(path), from)
	for _, r := range g.Rules {
		if r.Left != from {
			continue
		}
		for i, s := range r.Right {
			stays := func(s int) bool { return !vanishes(g, s, nil) }
			beside := slices.Concat(r.Right[:i], r.Right[i+1:])
			if s < 0 || slices.ContainsFunc(beside, stays) {
				continue
			}
			if s == to || !slices.Contains(path, s) && comesTo(g, s, to, path) {
				return true
			}
		}
	}
	return false
}

// byTrees tells of each name whether it runs in circles, by trees.
func byTrees(g api.Grammar) []bool {
	var l []bool
	for name := range g.Names {
		l = append(l, comesTo(g, name, name, nil))
	}
	return l
}

// P1301: many greater grammars, held against the trees that they have.
func TestManyGrammars(t *testing.T) {
	next := sample.Chance(13)
	told, inCircles, out := map[api.Errno]int{}, 0, 0
	for range 4000 {
		g := next.Grammar(6, 4, 14, 3)
		circles := byTrees(g)
		at, e := finds(g, circles)
		tells(t, "by trees", g, circles, at, e)
		told[e]++
		for _, c := range circles {
			if c {
				inCircles++
			} else {
				out++
			}
		}
		if t.Failed() {
			t.Fatalf("%+v", g)
		}
	}
	if told[api.OK] < 100 || told[api.ErrUseless] < 100 || told[api.ErrCycle] < 100 || inCircles < 500 || out < 500 {
		t.Errorf("not of all kinds: %v, %d in circles, %d not", told, inCircles, out)
	}
}

// P1302: what is handed in stays as it is, its spare room too.
func TestHandedInStays(t *testing.T) {
	g, was := sample.Roomy(), sample.Spread(sample.Roomy())
	tells(t, "roomy", g, only(4), -1, api.OK)
	if now := sample.Spread(g); !reflect.DeepEqual(now, was) {
		t.Errorf("what is handed in: %+v; was %+v", now, was)
	}
	for _, x := range sample.NotForm() {
		was := x.Grammar
		was.Rules = slices.Clone(x.Grammar.Rules)
		tells(t, "no grammar", x.Grammar, nil, x.At, x.Err)
		if !reflect.DeepEqual(x.Grammar, was) {
			t.Errorf("what is handed in: %+v; was %+v", x.Grammar, was)
		}
	}
}

// P1302: what is told is new memory: what is done to it turns nothing that is told of it later.
func TestAnswersAreNew(t *testing.T) {
	g := sample.Grammar(4, 2, "AaB", "BC", "CB", "Ca", "BD", "Db")
	for range 3 {
		tells(t, "anew", g, only(4, 1, 2), 1, api.ErrCycle)
		l := cycle.Cyclic(g)
		for i := range l[:cap(l)] {
			l[:cap(l)][i] = i%2 == 0
		}
	}
}

// P1302: what is told hangs on the arguments alone: one grammar that is turned is gone through anew each time, and who asks beside turns nothing.
func TestNothingIsKept(t *testing.T) {
	g := sample.Grammar(2, 2, "AaB", "Bbb", "BA")
	for range 3 {
		tells(t, "as it was", g, only(2), -1, api.OK)
		g.Rules[0].Right[0] = 1
		tells(t, "a symbol turned", g, only(2), -1, api.OK)
		g.Rules[1].Right = nil
		tells(t, "two turned", g, only(2, 0, 1), 0, api.ErrCycle)
		g.Rules[0].Right[0], g.Rules[1].Right = -1, []int{-2, -2}
		g.Start = 5
		tells(t, "none", g, nil, -1, api.ErrName)
		g.Start = 0
	}
	next := sample.Chance(1302)
	var all []api.Grammar
	var circles [][]bool
	for range 20 {
		g := next.Grammar(6, 4, 14, 3)
		all, circles = append(all, g), append(circles, byTrees(g))
	}
	var group sync.WaitGroup
	for k := range 4 {
		group.Go(func() {
			for i := range 200 {
				n := (i + 7*k) % len(all)
				at, e := finds(all[n], circles[n])
				tells(t, "one of many", all[n], circles[n], at, e)
			}
		})
	}
	group.Wait()
}
