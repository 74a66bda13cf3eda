package items_test

import (
	"math"
	"slices"
	"testing"

	"undergrowth/api"
	"undergrowth/cycle"
	"undergrowth/items"
	"undergrowth/sample"
)

// list is a row of items: rule and place, one behind the other.
func list(l ...int) []api.Item {
	var all []api.Item
	for i := 0; i < len(l); i += 2 {
		all = append(all, api.Item{Rule: l[i], At: l[i+1]})
	}
	return all
}

// upTo is the items at the beginning of the rules from to to, with both.
func upTo(from, to int) []api.Item {
	var all []api.Item
	for r := from; r <= to; r++ {
		all = append(all, api.Item{Rule: r})
	}
	return all
}

// state is one: its items, and pairs of a symbol and where it leads.
func state(l []api.Item, steps ...int) api.State {
	s := api.State{Items: l}
	for i := 0; i < len(steps); i += 2 {
		s.Syms, s.To = append(s.Syms, steps[i]), append(s.To, steps[i+1])
	}
	return s
}

// sameStates tells whether two automata are the same.
func sameStates(a, b []api.State) bool {
	return slices.EqualFunc(a, b, func(x, y api.State) bool {
		return slices.Equal(x.Items, y.Items) && slices.Equal(x.Syms, y.Syms) && slices.Equal(x.To, y.To)
	})
}

// closes looks at what Close tells.
func closes(t *testing.T, what string, g api.Grammar, l, want []api.Item) {
	t.Helper()
	if got := items.Close(g, l); !slices.Equal(got, want) {
		t.Errorf("%s: Close of %v: %v; want %v", what, l, got, want)
	}
}

// leads looks at what States tells.
func leads(t *testing.T, what string, g api.Grammar, want []api.State, e api.Errno) {
	t.Helper()
	if got, gotE := items.States(g); !sameStates(got, want) || gotE != e {
		t.Errorf("%s: States: %v, %d; want %v, %d", what, got, gotE, want, e)
	}
}

// P1401: the item of rule -1 stands for a rule of Start alone: at 0 ahead of it, at 1 behind.
func TestCloseOfStart(t *testing.T) {
	g := sample.Grammar(3, 1, "AB", "BaC", "B", "CA", "Ca")
	for start, want := range [][]api.Item{list(-1, 0, 0, 0, 1, 0, 2, 0), list(-1, 0, 1, 0, 2, 0), list(-1, 0, 0, 0, 1, 0, 2, 0, 3, 0, 4, 0)} {
		g.Start = start
		closes(t, "ahead of Start", g, list(-1, 0), want)
		closes(t, "behind Start", g, list(-1, 1), list(-1, 1))
		closes(t, "both", g, list(-1, 1, -1, 0), slices.Insert(slices.Clone(want), 1, api.Item{Rule: -1, At: 1}))
	}
}

// P1401: as long as there is a name behind a point, all rules of that name; of no other one.
func TestClose(t *testing.T) {
	g := sample.Sums()
	terms := list(4, 0, 5, 0, 6, 0, 7, 0, 8, 0)
	all := slices.Concat(list(2, 0, 3, 0), terms)
	for _, x := range []struct{ l, want []api.Item }{
		{nil, nil},
		{[]api.Item{}, nil},
		{list(0, 0), list(0, 0)},
		{list(1, 0), list(0, 0, 1, 0)},
		{list(1, 1), slices.Concat(list(1, 1), all)},
		{list(1, 2), list(1, 2)},
		{list(1, 3), list(1, 3)},
		{list(2, 0), all},
		{list(2, 1), list(2, 1)},
		{list(2, 2), slices.Concat(list(2, 2), terms)},
		{list(2, 3), list(2, 3)},
		{list(3, 0), slices.Concat(list(3, 0), terms)},
		{list(3, 1), list(3, 1)},
		{list(4, 0), terms},
		{list(4, 2), slices.Concat(list(4, 0, 4, 2), terms[1:])},
		{list(5, 0), list(5, 0, 7, 0, 8, 0)},
		{list(5, 1), list(5, 1)},
		{list(5, 2), slices.Insert(slices.Clone(all), 4, api.Item{Rule: 5, At: 2})},
		{list(5, 3), list(5, 3)},
		{list(7, 0), list(7, 0)},
		{list(8, 0, 8, 1), list(8, 0, 8, 1)},
		{list(8, 1, 6, 0, 2, 1, 0, 0), list(0, 0, 2, 1, 6, 0, 8, 1)},
		{list(3, 1, 2, 1), list(2, 1, 3, 1)},
		{list(3, 1, 3, 0), slices.Concat(list(3, 0, 3, 1), terms)},
	} {
		closes(t, "sums", g, x.l, x.want)
	}
}

// P1401: each once, however often it is handed in or come to, and rising: by the rule, then by the place.
func TestEachOnceRising(t *testing.T) {
	g := sample.Grammar(1, 2, "AAAAAAAAA", "AaAAAAAAA", "A", "AAb")
	closes(t, "one, twice", g, list(2, 0, 2, 0), list(2, 0))
	closes(t, "one, come to by itself", g, list(0, 0), upTo(0, 3))
	var l, want []api.Item
	for r, x := range g.Rules {
		for at := 0; at <= len(x.Right); at++ {
			want = append(want, api.Item{Rule: r, At: at})
		}
	}
	for range 3 {
		l = append(l, want...)
	}
	closes(t, "all, three times", g, l, want)
	slices.Reverse(l)
	closes(t, "all, from the end", g, l, want)
}

// P1401: only what stands right behind the point counts: a name that derives nothing hides what is behind it.
func TestOnlyRightBehind(t *testing.T) {
	g := sample.Grammar(4, 1, "ABCD", "B", "C", "Da")
	closes(t, "ahead of all", g, list(0, 0), list(0, 0, 1, 0))
	closes(t, "behind one", g, list(0, 1), list(0, 1, 2, 0))
	closes(t, "behind two", g, list(0, 2), list(0, 2, 3, 0))
	closes(t, "behind all", g, list(0, 3), list(0, 3))
	leads(t, "vanishing", g, []api.State{
		state(list(-1, 0), 0, 1, 1, 2), state(list(-1, 1)), state(list(0, 1), 2, 3),
		state(list(0, 2), -1, 4, 3, 5), state(list(3, 1)), state(list(0, 3)),
	}, api.OK)
}

// P1401: such as are none are left out, whatever numbers they have.
func TestNoItems(t *testing.T) {
	g := sample.Grammar(2, 1, "AB", "A", "Baaaaaaaa")
	for _, rule := range []int{math.MinInt, math.MinInt + 1, -1 << 32, -61, -3, -2, -1, 0, 1, 2, 3, 4, 59, 60, 61, 1 << 32, math.MaxInt - 1, math.MaxInt} {
		for _, at := range []int{math.MinInt, math.MinInt + 1, -1 << 32, -9, -2, -1, 0, 1, 2, 3, 7, 8, 9, 10, 1 << 32, 1<<32 + 1, math.MaxInt - 1, math.MaxInt} {
			want := list(rule, at)
			switch {
			case at < 0 || rule < -1 || rule > 2 || at > []int{1, 1, 0, 8}[rule+1]:
				want = nil
			case rule == -1 && at == 0:
				want = list(-1, 0, 0, 0, 1, 0, 2, 0)
			case rule == 0 && at == 0:
				want = list(0, 0, 2, 0)
			}
			closes(t, "one", g, list(rule, at), want)
			if want == nil {
				closes(t, "beside others", g, list(2, 8, rule, at, 0, 0, rule, at), list(0, 0, 2, 0, 2, 8))
			}
		}
	}
	closes(t, "without rules", sample.Grammar(1, 1), list(-1, 0, 0, 0, -1, 1), list(-1, 0, -1, 1))
}

// P1401: Close is told of any grammar.Form: of names without rules, of no use, that come to no end, or run in circles, too.
func TestCloseOfAnyForm(t *testing.T) {
	closes(t, "a name without rules", sample.Grammar(2, 1, "AB", "Aa"), list(-1, 0), list(-1, 0, 0, 0, 1, 0))
	closes(t, "what Start does not come to", sample.Grammar(3, 1, "Aa", "BC", "Ca"), list(1, 0), list(1, 0, 2, 0))
	closes(t, "no end", sample.Grammar(2, 0, "AB", "BA"), list(0, 0), list(0, 0, 1, 0))
	closes(t, "a circle", sample.Grammar(2, 1, "AA", "AB", "BA", "Ba"), list(-1, 0), append(list(-1, 0), upTo(0, 3)...))
}

// P1401: the greatest grammar there is: all its items, and the last symbols.
func TestGreatest(t *testing.T) {
	g := api.Grammar{Names: 40, Kinds: 40}
	for i := range 60 {
		g.Rules = append(g.Rules, api.Rule{Left: i % 40, Right: []int{(i + 1) % 40, -40, -1, 39, 0, -1 - i%40, i % 40, -40}})
	}
	all := upTo(0, 59)
	closes(t, "the goal", g, list(-1, 0), append(list(-1, 0), all...))
	closes(t, "the last place", g, list(59, 8), list(59, 8))
	closes(t, "the last places", g, list(59, 8, 0, 0, 58, 8, 59, 7), append(all[:59:59], list(58, 8, 59, 0, 59, 7, 59, 8)...))
}

// P1401: automata as they are.
func TestStates(t *testing.T) {
	for _, x := range []struct {
		what string
		g    api.Grammar
		want []api.State
	}{
		{"nothing", sample.Grammar(1, 0, "A"), []api.State{state(list(-1, 0), 0, 1), state(list(-1, 1))}},
		{"a kind", sample.Grammar(1, 1, "Aa"), []api.State{state(list(-1, 0), -1, 1, 0, 2), state(list(0, 1)), state(list(-1, 1))}},
		{"one, twice", sample.Grammar(1, 1, "Aa", "Aa"), []api.State{state(list(-1, 0), -1, 1, 0, 2), state(list(0, 1, 1, 1)), state(list(-1, 1))}},
		{"brackets", sample.Grammar(1, 2, "AaAbA", "A"), []api.State{
			state(list(-1, 0), -1, 1, 0, 2), state(list(0, 1), -1, 1, 0, 3), state(list(-1, 1)),
			state(list(0, 2), -2, 4), state(list(0, 3), -1, 1, 0, 5), state(list(0, 4)),
		}},
		{"sums of any shape", sample.Grammar(1, 2, "AAaA", "Ab"), []api.State{
			state(list(-1, 0), -2, 1, 0, 2), state(list(1, 1)), state(list(-1, 1, 0, 1), -1, 3),
			state(list(0, 2), -2, 1, 0, 4), state(list(0, 1, 0, 3), -1, 3),
		}},
		{"sums of products", sample.Grammar(3, 5, "AAaB", "AB", "BBbC", "BC", "CcAd", "Ce"), []api.State{
			state(list(-1, 0), -5, 1, -3, 2, 0, 3, 1, 4, 2, 5),
			state(list(5, 1)),
			state(list(4, 1), -5, 1, -3, 2, 0, 6, 1, 4, 2, 5),
			state(list(-1, 1, 0, 1), -1, 7),
			state(list(1, 1, 2, 1), -2, 8),
			state(list(3, 1)),
			state(list(0, 1, 4, 2), -4, 9, -1, 7),
			state(list(0, 2), -5, 1, -3, 2, 1, 10, 2, 5),
			state(list(2, 2), -5, 1, -3, 2, 2, 11),
			state(list(4, 3)),
			state(list(0, 3, 2, 1), -2, 8),
			state(list(2, 3)),
		}},
	} {
		leads(t, x.what, x.g, x.want, api.OK)
	}
}

// P1401: state 0 is ahead of Start, whichever name that is.
func TestStatesOfStart(t *testing.T) {
	g := sample.Grammar(2, 2, "AaBb", "BbA", "A")
	leads(t, "the first one", g, []api.State{
		state(list(-1, 0), -1, 1, 0, 2), state(list(0, 1), -2, 3, 1, 4), state(list(-1, 1)),
		state(list(1, 1), -1, 1, 0, 5), state(list(0, 2), -2, 6), state(list(1, 2)), state(list(0, 3)),
	}, api.OK)
	g.Start = 1
	leads(t, "the other one", g, []api.State{
		state(list(-1, 0), -2, 1, 1, 2), state(list(1, 1), -1, 3, 0, 4), state(list(-1, 1)),
		state(list(0, 1), -2, 1, 1, 5), state(list(1, 2)), state(list(0, 2), -2, 6), state(list(0, 3)),
	}, api.OK)
}

// P1401: a state is its items, the place too: one and the same if all of them are, another one if not.
func TestWhichStatesAreOne(t *testing.T) {
	leads(t, "one by two ways", sample.Grammar(2, 3, "AaB", "AbB", "Bc"), []api.State{
		state(list(-1, 0), -2, 1, -1, 2, 0, 3), state(list(1, 1), -3, 4, 1, 5), state(list(0, 1), -3, 4, 1, 6),
		state(list(-1, 1)), state(list(2, 1)), state(list(1, 2)), state(list(0, 2)),
	}, api.OK)
	leads(t, "one within the other", sample.Grammar(2, 1, "AaaB", "AaB", "B"), []api.State{
		state(list(-1, 0), -1, 1, 0, 2), state(list(0, 1, 1, 1), -1, 3, 1, 4), state(list(-1, 1)),
		state(list(0, 2), 1, 5), state(list(1, 2)), state(list(0, 3)),
	}, api.OK)
	leads(t, "back to itself", sample.Grammar(1, 1, "AaA", "Aa"), []api.State{
		state(list(-1, 0), -1, 1, 0, 2), state(list(0, 1, 1, 1), -1, 1, 0, 3), state(list(-1, 1)), state(list(0, 2)),
	}, api.OK)
}

// P1401: symbols rise as numbers do: the last kind first, then the first one, then the names.
func TestSymbolsRise(t *testing.T) {
	g := api.Grammar{Names: 40, Kinds: 40}
	for i := range 39 {
		g.Rules = append(g.Rules, api.Rule{Left: i, Right: []int{i + 1, -40 + i, 39}})
	}
	for k := range 20 {
		g.Rules = append(g.Rules, api.Rule{Left: 39, Right: []int{-1 - (k*7+1)%40}})
	}
	g.Rules = append(g.Rules, api.Rule{Left: 39, Right: []int{-40}})
	l, e := items.States(g)
	if e != api.OK || !sameStates(l, statesByWords(g)) {
		t.Fatalf("States: %d, of %d states", e, len(l))
	}
	if s := l[0].Syms; !slices.IsSorted(s) || s[0] != -40 || s[len(s)-1] != 39 || len(s) != 20+1+40 {
		t.Errorf("symbols: %v", s)
	}
	for i, s := range l[0].Syms {
		if l[0].To[i] != i+1 {
			t.Errorf("%d leads to %d; want %d", s, l[0].To[i], i+1)
		}
	}
}

// P1401: what is told first of what can't be parsed by.
func TestErrors(t *testing.T) {
	for _, x := range []struct {
		what string
		g    api.Grammar
		e    api.Errno
	}{
		{"zero", api.Grammar{}, api.ErrLong},
		{"no rules", sample.Grammar(1, 0), api.ErrUseless},
		{"one that Start does not come to", sample.Grammar(2, 1, "Aa", "Ba"), api.ErrUseless},
		{"no end", sample.Grammar(1, 1, "AaA"), api.ErrUseless},
		{"a circle", sample.Grammar(1, 1, "AA", "Aa"), api.ErrCycle},
		{"a circle by nothing", sample.Grammar(2, 1, "ABA", "Aa", "B"), api.ErrCycle},
		{"a kind that is none", sample.Grammar(1, 1, "Ab"), api.ErrName},
		{"too heavy", api.Grammar{Names: 1, Rules: []api.Rule{{Dyn: 1001}}}, api.ErrArg},
		{"a class that is none", api.Grammar{Names: 1, Rules: []api.Rule{{}}, RuleClass: []int{-1}}, api.ErrArg},
	} {
		if at, e := cycle.Check(x.g); e != x.e {
			t.Fatalf("%s: Check: %d, %d", x.what, at, e)
		}
		leads(t, x.what, x.g, nil, x.e)
	}
}

// P1401: of what is no grammar Close is nothing, and States tells the error that grammar.Form tells.
func TestNotForm(t *testing.T) {
	for _, x := range sample.NotForm() {
		leads(t, "no grammar", x.Grammar, nil, x.Err)
		for _, l := range [][]api.Item{nil, list(-1, 0), list(-1, 1), list(0, 0), list(1, 1, 8, 1), list(60, 0)} {
			closes(t, "no grammar", x.Grammar, l, nil)
		}
	}
}

// P1401: how the rules weigh, what is forbidden and which classes there are turns nothing.
func TestOnlyRulesCount(t *testing.T) {
	g := sample.Sums()
	states, e := items.States(g)
	if e != api.OK || len(states) == 0 {
		t.Fatalf("States: %v, %d", states, e)
	}
	begin := items.Close(g, list(-1, 0, 1, 1))
	g = sample.Dressed()
	closes(t, "weights, classes, what is forbidden", g, list(-1, 0, 1, 1), begin)
	leads(t, "weights, classes, what is forbidden", g, states, api.OK)
}
