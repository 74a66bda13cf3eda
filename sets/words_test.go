package sets_test

import (
	"reflect"
	"slices"
	"sync"
	"testing"

	"undergrowth/api"
	"undergrowth/sample"
	"undergrowth/sets"
)

// told is what the document's words ask to be told of a grammar.
type told struct {
	null          []bool
	first, follow [][]int
}

// rows is all rows of at most so many symbols that l derives by rows that are no longer.
func rows(g api.Grammar, l []int, most int) [][]int {
	all, seen := [][]int{l}, map[string]int{}
	key := func(l []int) string {
		b := make([]byte, len(l))
		for i, s := range l {
			b[i] = byte(s)
		}
		return string(b)
	}
	seen[key(l)] = 1
	for at := 0; at < len(all); at++ {
		for i, s := range all[at] {
			for _, r := range g.Rules {
				if r.Left != s || len(all[at])-1+len(r.Right) > most {
					continue
				}
				now := slices.Concat(all[at][:i], r.Right, all[at][i+1:])
				if seen[key(now)] == 0 {
					seen[key(now)] = 1
					all = append(all, now)
				}
			}
		}
	}
	return all
}

// rising is the numbers from 0 on that m holds.
func rising(m []int) []int {
	var l []int
	for i, n := range m {
		if n > 0 {
			l = append(l, i)
		}
	}
	return l
}

// beginning is how the rows begin, and whether one of them is nothing.
func beginning(g api.Grammar, all [][]int) ([]int, bool) {
	kinds, null := make([]int, g.Kinds), false
	for _, l := range all {
		if len(l) == 0 {
			null = true
		} else if l[0] < 0 {
			kinds[-1-l[0]] = 1
		}
	}
	return rising(kinds), null
}

// behind is what stands right behind a name in the rows.
func behind(g api.Grammar, all [][]int, name int) []int {
	kinds := make([]int, g.Kinds+1)
	for _, l := range all {
		for i, s := range l {
			if s != name {
				continue
			}
			if i+1 == len(l) {
				kinds[g.Kinds] = 1
			} else if l[i+1] < 0 {
				kinds[-1-l[i+1]] = 1
			}
		}
	}
	return rising(kinds)
}

// byRows goes through all that is derived, by rows of at most so many symbols.
func byRows(g api.Grammar, most int) told {
	var x told
	ofStart := rows(g, []int{g.Start}, most)
	for name := range g.Names {
		first, null := beginning(g, rows(g, []int{name}, most))
		x.first, x.null = append(x.first, first), append(x.null, null)
		x.follow = append(x.follow, behind(g, ofStart, name))
	}
	return x
}

// P1101: all grammars of two names, a kind and up to three rules of up to two symbols, held against all that they derive.
func TestAllSmallGrammars(t *testing.T) {
	all, n := sample.Rows(2, 1, 2), 0
	sample.Small(func(g api.Grammar) {
		for g.Start = range 2 {
			x := byRows(g, 6)
			tells(t, "by rows", g, x.null, x.first, x.follow)
		}
		for range 3 {
			l := all[n%len(all)]
			first, null := beginning(g, rows(g, l, 6))
			begins(t, g, l, first, null)
			n++
		}
		if t.Failed() {
			t.Fatalf("%+v", g)
		}
	})
}

// row is up to most symbols of g.
func row(c *sample.Chance, g api.Grammar, most int) []int {
	return c.Symbols(g, c.Below(most+1))
}

// some is a grammar, many of whose rules are short.
func some(c *sample.Chance, names, kinds, rules, right int) api.Grammar {
	g := api.Grammar{Names: 1 + c.Below(names), Kinds: c.Below(kinds + 1)}
	g.Start = c.Below(g.Names)
	for range c.Below(rules + 1) {
		g.Rules = append(g.Rules, api.Rule{Left: c.Below(g.Names), Right: row(c, g, c.Below(right+1))})
	}
	return g
}

// comesToNothing tells whether a name derives nothing by way of no name of path twice.
func comesToNothing(g api.Grammar, name int, path []int) bool {
	if name < 0 || slices.Contains(path, name) {
		return false
	}
	path = append(slices.Clone(path), name)
	for _, r := range g.Rules {
		no := func(s int) bool { return !comesToNothing(g, s, path) }
		if r.Left == name && !slices.ContainsFunc(r.Right, no) {
			return true
		}
	}
	return false
}

// pairs is a relation of symbols: which ones are come to from each, by any number of steps; the symbol s stands at s + 40.
type pairs [80][80]int

// close adds what is come to by several steps, or none.
func (p *pairs) close() {
	for i := range p {
		p[i][i] = 1
	}
	for k := range p {
		for i := range p {
			for j := range p {
				p[i][j] |= p[i][k] & p[k][j]
			}
		}
	}
}

// byPairs tells what begins and what ends with what, and goes through all that stand side by side in the rules.
func byPairs(g api.Grammar) told {
	var x told
	for name := range g.Names {
		x.null = append(x.null, comesToNothing(g, name, nil))
	}
	nothing := func(l []int) bool {
		return !slices.ContainsFunc(l, func(s int) bool { return s < 0 || !x.null[s] })
	}
	var starts, ends, within pairs
	for _, r := range g.Rules {
		for i, s := range r.Right {
			within[r.Left+40][s+40] = 1
			if nothing(r.Right[:i]) {
				starts[r.Left+40][s+40] = 1
			}
			if nothing(r.Right[i+1:]) {
				ends[r.Left+40][s+40] = 1
			}
		}
	}
	starts.close()
	ends.close()
	within.close()
	for name := range g.Names {
		kinds := make([]int, g.Kinds+1)
		for k := range g.Kinds {
			kinds[k] = starts[name+40][39-k]
		}
		x.first = append(x.first, rising(kinds))
		kinds = make([]int, g.Kinds+1)
		kinds[g.Kinds] = ends[g.Start+40][name+40]
		for _, r := range g.Rules {
			for i, s := range r.Right {
				for j := i + 1; j < len(r.Right) && within[g.Start+40][r.Left+40] > 0 && nothing(r.Right[i+1:j]); j++ {
					for k := range g.Kinds {
						kinds[k] |= ends[s+40][name+40] & starts[r.Right[j]+40][39-k]
					}
				}
			}
		}
		x.follow = append(x.follow, rising(kinds))
	}
	return x
}

// P1101: many greater grammars, held against what begins, ends and stands side by side in them.
func TestManyGrammars(t *testing.T) {
	next := sample.Chance(11)
	nulls, kinds, empty := 0, 0, 0
	for range 3000 {
		g := some(&next, 8, 5, 14, 4)
		x := byPairs(g)
		tells(t, "by pairs", g, x.null, x.first, x.follow)
		for name := range g.Names {
			begins(t, g, []int{name}, x.first[name], x.null[name])
			kinds += len(x.first[name]) + len(x.follow[name])
			if x.null[name] {
				nulls++
			}
			if len(x.follow[name]) == 0 {
				empty++
			}
		}
		if t.Failed() {
			t.Fatalf("%+v", g)
		}
	}
	if nulls < 1000 || kinds < 10000 || empty < 1000 {
		t.Errorf("%d that are nothing, %d kinds, %d without any, only", nulls, kinds, empty)
	}
}

// P1101: a row begins as the right side of a rule would.
func TestRowsAreAsRules(t *testing.T) {
	next := sample.Chance(1101)
	for range 3000 {
		g := some(&next, 6, 4, 12, 3)
		l := row(&next, g, 8)
		with := g
		with.Names++
		with.Rules = append(slices.Clone(g.Rules), api.Rule{Left: g.Names, Right: l})
		begins(t, g, l, sets.First(with)[g.Names], sets.Nullable(with)[g.Names])
		if t.Failed() {
			t.Fatalf("%+v", g)
		}
	}
}

// P1102: what is handed in stays as it is, its spare room too.
func TestHandedInStays(t *testing.T) {
	want := sample.Sums()
	first, follow := sets.First(want), sets.Follow(want)
	g, was := sample.Roomy(), sample.Spread(sample.Roomy())
	tells(t, "roomy", g, sets.Nullable(want), first, follow)
	for _, row := range []string{"", "DDDb", "AB", "DZ"} {
		l := append(sample.Symbols(row), 50, 51, 52)
		all := slices.Clone(l)
		sets.FirstOf(g, l[:len(row)])
		if !slices.Equal(l, all) {
			t.Errorf("FirstOf turns the row: %v; was %v", l, all)
		}
	}
	if now := sample.Spread(g); !reflect.DeepEqual(now, was) {
		t.Errorf("what is handed in: %+v; was %+v", now, was)
	}
	for _, x := range sample.NotForm() {
		g, was := x.Grammar, x.Grammar
		was.Rules = slices.Clone(g.Rules)
		tells(t, "no grammar", g, nil, nil, nil)
		if !reflect.DeepEqual(g, was) {
			t.Errorf("what is handed in: %+v; was %+v", g, was)
		}
	}
}

// P1102: what is told is new memory, each list of its own: what is done to it turns no other one, and nothing told later.
func TestAnswersAreNew(t *testing.T) {
	g := sample.Sums()
	x := told{sets.Nullable(g), sets.First(g), sets.Follow(g)}
	want := told{slices.Clone(x.null), nil, nil}
	for name := range g.Names {
		want.first = append(want.first, slices.Clone(x.first[name]))
		want.follow = append(want.follow, slices.Clone(x.follow[name]))
	}
	row, null := sets.FirstOf(g, sample.Symbols("A"))
	for name := range g.Names {
		sample.Spoil(x.first[name], 99)
		sample.Spoil(x.follow[name], 99)
		if name+1 < g.Names && (!same(x.first[name+1:], want.first[name+1:]) || !same(x.follow[name+1:], want.follow[name+1:])) {
			t.Fatalf("the lists of %d hold another one's memory", name)
		}
	}
	if !slices.Equal(row, want.first[0]) || !null {
		t.Errorf("FirstOf: %v, %v", row, null)
	}
	sample.Spoil(row, 99)
	for i := range x.null[:cap(x.null)] {
		x.null[:cap(x.null)][i] = i%3 == 1
	}
	tells(t, "anew", g, want.null, want.first, want.follow)
	begins(t, g, sample.Symbols("A"), want.first[0], true)
}

// P1102: what is told hangs on the arguments alone: one grammar that is turned is gone through anew each time, and who asks beside turns nothing.
func TestNothingIsKept(t *testing.T) {
	g := sample.Grammar(2, 2, "AaB", "BAb")
	for range 3 {
		tells(t, "as it was", g, make([]bool, 2), [][]int{{0}, {0}}, [][]int{{1, 2}, {1, 2}})
		g.Rules[1].Right[0] = -2
		tells(t, "a symbol turned", g, make([]bool, 2), [][]int{{0}, {1}}, [][]int{{2}, {2}})
		g.Rules[1].Right[0] = 0
		g.Start = 5
		tells(t, "none", g, nil, nil, nil)
		g.Start = 0
	}
	next := sample.Chance(1102)
	var all []api.Grammar
	var want []told
	for range 20 {
		g := some(&next, 8, 5, 14, 4)
		all, want = append(all, g), append(want, byPairs(g))
	}
	var group sync.WaitGroup
	for k := range 4 {
		group.Go(func() {
			for i := range 200 {
				n := (i + 7*k) % len(all)
				tells(t, "one of many", all[n], want[n].null, want[n].first, want[n].follow)
			}
		})
	}
	group.Wait()
}
