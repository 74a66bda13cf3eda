package items_test

import (
	"reflect"
	"slices"
	"sync"
	"testing"

	"undergrowth/api"
	"undergrowth/cycle"
	"undergrowth/grammar"
	"undergrowth/items"
	"undergrowth/sample"
)

// rightOf is what a rule comes to; the rule -1 comes to Start alone.
func rightOf(g api.Grammar, rule int) []int {
	if rule < 0 {
		return []int{g.Start}
	}
	return g.Rules[rule].Right
}

// allItems is all items of g, rising.
func allItems(g api.Grammar) []api.Item {
	var l []api.Item
	for r := -1; r < len(g.Rules); r++ {
		for at := range len(rightOf(g, r)) + 1 {
			l = append(l, api.Item{Rule: r, At: at})
		}
	}
	return l
}

// pick is those of the items of g for which in tells so.
func pick(g api.Grammar, in func(it api.Item) bool) []api.Item {
	var l []api.Item
	for _, it := range allItems(g) {
		if in(it) {
			l = append(l, it)
		}
	}
	return l
}

// closeByWords is Close by the words of the document.
func closeByWords(g api.Grammar, l []api.Item) []api.Item {
	if _, e := grammar.Form(g); e != api.OK {
		return nil
	}
	has := pick(g, func(it api.Item) bool { return slices.Contains(l, it) })
	for {
		more := pick(g, func(it api.Item) bool {
			isBegun := func(x api.Item) bool {
				r := rightOf(g, x.Rule)
				return x.At < len(r) && r[x.At] == g.Rules[it.Rule].Left
			}
			return slices.Contains(has, it) || it.Rule >= 0 && it.At == 0 && slices.ContainsFunc(has, isBegun)
		})
		if len(more) == len(has) {
			return has
		}
		has = more
	}
}

// statesByWords is the states by the words of the document, however many there are.
func statesByWords(g api.Grammar) []api.State {
	all := []api.State{{Items: list(-1, 0)}}
	for n := 0; n < len(all); n++ {
		inside := closeByWords(g, all[n].Items)
		for sym := -g.Kinds; sym < g.Names; sym++ {
			var next []api.Item
			for _, it := range inside {
				if r := rightOf(g, it.Rule); it.At < len(r) && r[it.At] == sym {
					next = append(next, api.Item{Rule: it.Rule, At: it.At + 1})
				}
			}
			if next == nil {
				continue
			}
			to := slices.IndexFunc(all, func(s api.State) bool { return slices.Equal(s.Items, next) })
			if to < 0 {
				to = len(all)
				all = append(all, api.State{Items: next})
			}
			all[n].Syms, all[n].To = append(all[n].Syms, sym), append(all[n].To, to)
		}
	}
	return all
}

// someItems is a few items, some of which are none.
func someItems(c *sample.Chance, g api.Grammar) []api.Item {
	var l []api.Item
	for range c.Below(5) {
		l = append(l, api.Item{Rule: c.Below(len(g.Rules)+4) - 2, At: c.Below(5) - 1})
	}
	return l
}

// holds looks at both calls, held against the words of the document, and answers the error of States.
func holds(t *testing.T, g api.Grammar, l []api.Item) api.Errno {
	t.Helper()
	closes(t, "by words", g, l, closeByWords(g, l))
	_, e := cycle.Check(g)
	var want []api.State
	if e == api.OK {
		want = statesByWords(g)
	}
	leads(t, "by words", g, want, e)
	if t.Failed() {
		t.Fatalf("%+v", g)
	}
	return e
}

// P1401: many grammars, held against the words of the document.
func TestManyGrammars(t *testing.T) {
	next := sample.Chance(14)
	told := map[api.Errno]int{}
	for i := range 20000 {
		g := next.Grammar(5, 4, 14, 1+i%5)
		told[holds(t, g, someItems(&next, g))]++
	}
	if told[api.OK] < 500 || told[api.ErrUseless] < 500 || told[api.ErrCycle] < 100 {
		t.Errorf("not of all kinds: %v", told)
	}
}

// P1401: greater grammars, up to the greatest: a row of names, each of which comes up, and ends.
func TestGreatGrammars(t *testing.T) {
	next := sample.Chance(1401)
	most := 0
	for range 150 {
		g := next.Great()
		if e := holds(t, g, allItems(g)); e != api.OK {
			t.Fatalf("%d: %+v", e, g)
		}
		l, _ := items.States(g)
		most = max(most, len(l))
	}
	if most < 200 {
		t.Errorf("at most %d states", most)
	}
}

// ahead is a name, and what stands ahead of it in something that comes of Start by rules for the last name alone, when all behind that name is cut off.
type ahead struct {
	row  []int
	name int
}

// aheadsOf is all of these with at most so many symbols ahead of the name. What stands behind a name comes to kinds sooner or later, for each name comes to an end.
func aheadsOf(g api.Grammar, most int) []ahead {
	all := []ahead{{nil, g.Start}}
	for n := 0; n < len(all); n++ {
		for _, r := range g.Rules {
			if r.Left != all[n].name {
				continue
			}
			for i, s := range r.Right {
				x := ahead{slices.Concat(all[n].row, r.Right[:i]), s}
				is := func(y ahead) bool { return y.name == s && slices.Equal(y.row, x.row) }
				if s >= 0 && len(x.row) <= most && !slices.ContainsFunc(all, is) {
					all = append(all, x)
				}
			}
		}
	}
	return all
}

// standBehind is the items that may have their point right behind a row: an item may, if what is ahead of its name and what is ahead of its point are the row.
func standBehind(g api.Grammar, all []ahead, row []int) []api.Item {
	return pick(g, func(it api.Item) bool {
		begin := rightOf(g, it.Rule)[:it.At]
		if it.Rule < 0 {
			return slices.Equal(begin, row)
		}
		return slices.ContainsFunc(all, func(x ahead) bool {
			return x.name == g.Rules[it.Rule].Left && slices.Equal(slices.Concat(x.row, begin), row)
		})
	})
}

// meansWhatItDerives holds each row of at most so many symbols, and where it leads to, against what comes of Start; it answers how many lead somewhere.
func meansWhatItDerives(t *testing.T, g api.Grammar, most int) int {
	t.Helper()
	l, e := items.States(g)
	if e != api.OK {
		t.Fatalf("States: %d: %+v", e, g)
	}
	all, n := aheadsOf(g, most), 0
	for _, row := range sample.Rows(g.Names, g.Kinds, most) {
		want := standBehind(g, all, row)
		at := sample.Walk(l, row)
		if at < 0 {
			if len(want) > 0 {
				t.Fatalf("%v leads nowhere; want %v: %+v", row, want, g)
			}
			continue
		}
		n++
		if got := items.Close(g, l[at].Items); !slices.Equal(got, want) {
			t.Fatalf("%v leads to %d, %v; want %v: %+v", row, at, got, want, g)
		}
	}
	return n
}

// P1401: where a row of symbols leads stand all items that may have their point right behind it, and no others: all grammars of two names, a kind and up to three rules of up to two symbols.
func TestAllSmallGrammars(t *testing.T) {
	told, rows := map[api.Errno]int{}, 0
	sample.Small(func(g api.Grammar) {
		for g.Start = range 2 {
			e := holds(t, g, allItems(g))
			if told[e]++; e == api.OK {
				rows += meansWhatItDerives(t, g, 4)
			}
		}
	})
	if told[api.OK] < 100 || told[api.ErrUseless] < 100 || told[api.ErrCycle] < 100 || rows < 1000 {
		t.Errorf("not of all kinds: %v, %d rows", told, rows)
	}
}

// P1401: the same of many grammars that are greater.
func TestManyMeanings(t *testing.T) {
	next := sample.Chance(140114)
	grammars, rows := 0, 0
	for grammars < 300 {
		g := next.Grammar(3, 3, 9, 3)
		if _, e := cycle.Check(g); e == api.OK && len(g.Rules) > g.Names {
			grammars, rows = grammars+1, rows+meansWhatItDerives(t, g, 4)
		}
	}
	if rows < 3000 {
		t.Errorf("%d rows lead somewhere", rows)
	}
}

// P1401: MaxItems states may be, one more may not.
func TestMostStates(t *testing.T) {
	base := len(statesByWords(sample.Wide(0)))
	if base < api.MaxItems-200 || base > api.MaxItems {
		t.Fatalf("%d states", base)
	}
	for more := range 12 {
		g := sample.Wide(api.MaxItems - base - 3 + more)
		want := statesByWords(g)
		if n := api.MaxItems - 3 + more; len(want) != n {
			t.Fatalf("%d states; want %d", len(want), n)
		}
		if len(want) > api.MaxItems {
			leads(t, "too many", g, nil, api.ErrLong)
		} else {
			leads(t, "many", g, want, api.OK)
		}
	}
}

// P1401: cycle.Check's error comes first, where there would be too many states, too; Close has no such limit.
func TestTooManyStates(t *testing.T) {
	g := sample.Wide(200)
	if at, e := cycle.Check(g); e != api.OK {
		t.Fatal(at, e)
	}
	leads(t, "too many", g, nil, api.ErrLong)
	closes(t, "too many", g, allItems(g), allItems(g))
	closes(t, "too many", g, list(-1, 0), closeByWords(g, list(-1, 0)))
	g.Rules = append(g.Rules, api.Rule{Left: 5, Right: []int{5}})
	leads(t, "too many, and a circle", g, nil, api.ErrCycle)
	g.Names++
	leads(t, "too many, a circle, and a name of no use", g, nil, api.ErrUseless)
	g.Rules[3].Dyn = -1001
	leads(t, "too many, and too light", g, nil, api.ErrArg)
}

// P1402: what is handed in stays as it is, its spare room too.
func TestHandedInStays(t *testing.T) {
	g, was := sample.Roomy(), sample.Spread(sample.Roomy())
	l := list(5, 2, -1, 0, 77, 1, 5, 2, 0, 0, 8, 1)
	had := slices.Clone(l)
	leads(t, "roomy", g, statesByWords(sample.Sums()), api.OK)
	closes(t, "roomy", g, l[:4], closeByWords(sample.Sums(), list(5, 2, -1, 0)))
	if now := sample.Spread(g); !reflect.DeepEqual(now, was) {
		t.Errorf("what is handed in: %+v; was %+v", now, was)
	}
	if !slices.Equal(l, had) {
		t.Errorf("what is handed in: %v; was %v", l, had)
	}
}

// P1402: what is answered is new memory, each list of its own: what is done to one turns no other, nor what is told later.
func TestAnswersAreNew(t *testing.T) {
	g, want := sample.Sums(), statesByWords(sample.Sums())
	item := api.Item{Rule: 55, At: 5}
	for range 3 {
		l := list(5, 2, 1, 0)
		got := items.Close(g, l)
		again := items.Close(g, got)
		sample.Spoil(got, item)
		if !slices.Equal(again, closeByWords(g, l)) || !slices.Equal(l, list(5, 2, 1, 0)) {
			t.Errorf("spoiled: %v, %v", again, l)
		}
		closes(t, "anew", g, l, closeByWords(g, l))
		leads(t, "anew", g, want, api.OK)
		all, _ := items.States(g)
		other, _ := items.States(g)
		for i := range all {
			sample.Spoil(all[i].Items, item)
			sample.Spoil(all[i].Syms, 444)
			sample.Spoil(all[i].To, 333)
			for k := range want {
				isSpoiled := api.State{Items: slices.Repeat([]api.Item{item}, len(want[k].Items)), Syms: slices.Repeat([]int{444}, len(want[k].Syms)), To: slices.Repeat([]int{333}, len(want[k].To))}
				if k <= i && !sameStates(all[k:k+1], []api.State{isSpoiled}) || k > i && !sameStates(all[k:k+1], want[k:k+1]) {
					t.Fatalf("state %d, spoiled up to %d: %v", k, i, all[k])
				}
			}
		}
		sample.Spoil(all, api.State{})
		if !sameStates(other, want) {
			t.Errorf("spoiled: %v", other)
		}
	}
}

// P1402: one's lists have no memory in common, the spare room neither.
func TestListsOfTheirOwn(t *testing.T) {
	l, _ := items.States(sample.Sums())
	for i := range l {
		sample.Spoil(l[i].Items[len(l[i].Items):cap(l[i].Items)], api.Item{Rule: 9})
		sample.Spoil(l[i].Syms[len(l[i].Syms):cap(l[i].Syms)], 99)
		sample.Spoil(l[i].To[len(l[i].To):cap(l[i].To)], 99)
	}
	if want := statesByWords(sample.Sums()); !sameStates(l, want) {
		t.Errorf("%v; want %v", l, want)
	}
}

// P1402: what is told hangs on the arguments alone: one grammar that is turned is gone through anew each time.
func TestNothingIsKept(t *testing.T) {
	g := sample.Grammar(2, 2, "AaB", "Bbb", "BA")
	begin := list(-1, 0)
	for range 3 {
		leads(t, "as it was", g, statesByWords(g), api.OK)
		closes(t, "as it was", g, begin, list(-1, 0, 0, 0))
		g.Rules[0].Right[0] = 1
		leads(t, "a symbol turned", g, statesByWords(g), api.OK)
		closes(t, "a symbol turned", g, begin, list(-1, 0, 0, 0, 1, 0, 2, 0))
		g.Rules[1].Right = nil
		leads(t, "two turned", g, nil, api.ErrCycle)
		closes(t, "two turned", g, list(0, 1), list(0, 0, 0, 1, 1, 0, 2, 0))
		g.Rules[1].Right, g.Rules[0].Right[0] = []int{-2, -2}, -1
		g.Start = 5
		leads(t, "none", g, nil, api.ErrName)
		closes(t, "none", g, begin, nil)
		g.Start = 0
	}
}

// P1402: who asks beside turns nothing.
func TestManyAsk(t *testing.T) {
	next := sample.Chance(1402)
	var all []api.Grammar
	var states [][]api.State
	for len(all) < 20 {
		g := next.Grammar(5, 4, 14, 4)
		if _, e := cycle.Check(g); e == api.OK {
			all, states = append(all, g), append(states, statesByWords(g))
		}
	}
	var group sync.WaitGroup
	for k := range 4 {
		group.Go(func() {
			for i := range 200 {
				n := (i + 7*k) % len(all)
				leads(t, "one of many", all[n], states[n], api.OK)
				closes(t, "one of many", all[n], list(-1, 0), closeByWords(all[n], list(-1, 0)))
			}
		})
	}
	group.Wait()
}
