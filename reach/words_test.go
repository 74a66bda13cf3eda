package reach_test

import (
	"reflect"
	"slices"
	"sync"
	"testing"

	"undergrowth/api"
	"undergrowth/reach"
	"undergrowth/sample"
)

// rows is all rows of at most so many symbols that l derives by rows that are no longer.
func rows(g api.Grammar, l []int, most int) [][]int {
	all, seen := [][]int{l}, map[string]int{}
	key := func(l []int) string {
		b := make([]byte, len(l))
		for i, s := range l {
			b[i] = byte(s)
		}
		return string(b)
	}
	seen[key(l)] = 1
	for at := 0; at < len(all); at++ {
		for i, s := range all[at] {
			for _, r := range g.Rules {
				if r.Left != s || len(all[at])-1+len(r.Right) > most {
					continue
				}
				now := slices.Concat(all[at][:i], r.Right, all[at][i+1:])
				if seen[key(now)] == 0 {
					seen[key(now)] = 1
					all = append(all, now)
				}
			}
		}
	}
	return all
}

// byRows goes through all that is derived, by rows of at most so many symbols: whether a name comes up in what Start derives, and the shortest row of kinds that it derives.
func byRows(g api.Grammar, most int) ([]bool, []int) {
	to, long := make([]bool, g.Names), make([]int, g.Names)
	isName := func(s int) bool { return s >= 0 }
	for _, l := range rows(g, []int{g.Start}, most) {
		for _, s := range l {
			if s >= 0 {
				to[s] = true
			}
		}
	}
	for name := range long {
		long[name] = -1
		for _, l := range rows(g, []int{name}, most) {
			if !slices.ContainsFunc(l, isName) && (long[name] < 0 || len(l) < long[name]) {
				long[name] = len(l)
			}
		}
	}
	return to, long
}

// P1201: all grammars of two names, a kind and up to three rules of up to two symbols, held against all that they derive.
func TestAllSmallGrammars(t *testing.T) {
	sample.Small(func(g api.Grammar) {
		for g.Start = range 2 {
			to, long := byRows(g, 6)
			tells(t, "by rows", g, to, long)
		}
		if t.Failed() {
			t.Fatalf("%+v", g)
		}
	})
}

// byPaths is the length of the shortest row that a tree has in which no name of path, and none twice on any way down, comes up; a shortest one is such a tree.
func byPaths(g api.Grammar, name int, path []int) int {
	if name < 0 {
		return 1
	}
	if slices.Contains(path, name) {
		return -1
	}
	least, path := -1, append(slices.Clone(path), name)
	for _, r := range g.Rules {
		if r.Left != name {
			continue
		}
		sum := 0
		for _, s := range r.Right {
			n := byPaths(g, s, path)
			if n < 0 {
				sum = -1
				break
			}
			sum += n
		}
		if sum >= 0 && (least < 0 || sum < least) {
			least = sum
		}
	}
	return least
}

// wayTo tells whether a name has a way of rules to another one, by no name of path.
func wayTo(g api.Grammar, from, to int, path []int) bool {
	if from == to {
		return true
	}
	path = append(slices.Clone(path), from)
	for _, r := range g.Rules {
		for _, s := range r.Right {
			if r.Left == from && s >= 0 && !slices.Contains(path, s) && wayTo(g, s, to, path) {
				return true
			}
		}
	}
	return false
}

// byWays tells the same as the calls by ways through the rules and by trees.
func byWays(g api.Grammar) ([]bool, []int) {
	var to []bool
	var long []int
	for name := range g.Names {
		to = append(to, wayTo(g, g.Start, name, nil))
		long = append(long, byPaths(g, name, nil))
	}
	return to, long
}

// P1201: many greater grammars, held against the ways and trees that they have.
func TestManyGrammars(t *testing.T) {
	next := sample.Chance(12)
	reached, dead, long := 0, 0, 0
	for range 3000 {
		g := next.Grammar(7, 4, 14, 4)
		to, lengths := byWays(g)
		tells(t, "by ways", g, to, lengths)
		for name, n := range lengths {
			if n < 0 {
				dead++
			}
			if n > 2 {
				long++
			}
			if to[name] {
				reached++
			}
		}
		if t.Failed() {
			t.Fatalf("%+v", g)
		}
	}
	if reached < 5000 || dead < 3000 || long < 200 {
		t.Errorf("%d that are reached, %d dead, %d long, only", reached, dead, long)
	}
}

// P1202: what is handed in stays as it is, its spare room too.
func TestHandedInStays(t *testing.T) {
	g, was := sample.Roomy(), sample.Spread(sample.Roomy())
	tells(t, "roomy", g, only(4, 0, 1, 2, 3), []int{0, 1, 1, 0})
	if now := sample.Spread(g); !reflect.DeepEqual(now, was) {
		t.Errorf("what is handed in: %+v; was %+v", now, was)
	}
	for _, x := range sample.NotForm() {
		g, was := x.Grammar, x.Grammar
		was.Rules = slices.Clone(g.Rules)
		tells(t, "no grammar", g, nil, nil)
		if !reflect.DeepEqual(g, was) {
			t.Errorf("what is handed in: %+v; was %+v", g, was)
		}
	}
}

// P1202: what is told is new memory: what is done to it turns nothing that is told of it later.
func TestAnswersAreNew(t *testing.T) {
	g := sample.Grammar(4, 2, "AB", "BbC", "Ba", "CC", "DA", "Da")
	to, long := []bool{true, true, true, false}, []int{1, 1, -1, 1}
	for range 3 {
		tells(t, "anew", g, to, long)
		for _, l := range [][]bool{reach.Reachable(g), reach.Productive(g)} {
			for i := range l[:cap(l)] {
				l[:cap(l)][i] = i%2 == 1
			}
		}
		l := reach.Shortest(g)
		for i := range l[:cap(l)] {
			l[:cap(l)][i] = 99
		}
	}
}

// P1202: what is told hangs on the arguments alone: one grammar that is turned is gone through anew each time, and who asks beside turns nothing.
func TestNothingIsKept(t *testing.T) {
	g := sample.Grammar(3, 2, "AaB", "Bbb", "CA")
	for range 3 {
		tells(t, "as it was", g, only(3, 0, 1), []int{3, 2, 3})
		g.Rules[1].Right[0] = 2
		tells(t, "a symbol turned", g, only(3, 0, 1, 2), []int{-1, -1, -1})
		g.Rules[1].Right[0] = -2
		g.Start = 5
		tells(t, "none", g, nil, nil)
		g.Start = 0
	}
	next := sample.Chance(1202)
	var all []api.Grammar
	var to [][]bool
	var long [][]int
	for range 20 {
		g := next.Grammar(7, 4, 14, 4)
		a, b := byWays(g)
		all, to, long = append(all, g), append(to, a), append(long, b)
	}
	var group sync.WaitGroup
	for k := range 4 {
		group.Go(func() {
			for i := range 200 {
				n := (i + 7*k) % len(all)
				tells(t, "one of many", all[n], to[n], long[n])
			}
		})
	}
	group.Wait()
}
