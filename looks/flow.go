package looks

import (
	"slices"

	"undergrowth/api"
	"undergrowth/items"
	"undergrowth/sets"
)

// place is an item where it stands in the automaton.
type place struct {
	state int
	item  api.Item
}

// byItem holds a set of kinds for each item of a grammar: those of the goal
// first, then those of rule 0, and so on.
type byItem [api.MaxRules + 1][api.MaxRight + 1]sets.Kinds

// flow is the kinds that may come behind the rules of the items of each state,
// as far as they are known. Every name comes to some row of kinds, so behind a
// rule that has an item in a state something may come, if only the end: an item
// of which nothing is known at last does not stand there.
type flow struct {
	g      api.Grammar
	states []api.State
	rests  rests
	known  []byItem
	todo   []place
}

// newFlow is a flow that knows of the end behind Start alone.
func newFlow(g api.Grammar, states []api.State) *flow {
	f := &flow{g: g, states: states, rests: restsOf(g), known: make([]byItem, len(states))}
	f.add(place{0, api.Item{Rule: items.Goal}}, sets.Only(g.Kinds))
	return f
}

// of is the kinds that are known at p.
func (f *flow) of(p place) *sets.Kinds {
	return &f.known[p.state][p.item.Rule-items.Goal][p.item.At]
}

// add puts kinds in; if one of them is new, p is to be gone on from.
func (f *flow) add(p place, k sets.Kinds) {
	known := f.of(p)
	if k &^= *known; k != 0 {
		*known |= k
		f.todo = append(f.todo, p)
	}
}

// run goes on until nothing new is known of any place.
func (f *flow) run() {
	for len(f.todo) > 0 {
		p := f.todo[len(f.todo)-1]
		f.todo = f.todo[:len(f.todo)-1]
		f.goOn(p)
	}
}

// goOn puts in what p tells of others: of the item whose point is one further,
// and of the rules of the name behind the point, which begin in the same state.
func (f *flow) goOn(p place) {
	right, at := items.Right(f.g, p.item.Rule), p.item.At
	if at == len(right) {
		return
	}
	sym, k := right[at], *f.of(p)
	f.add(place{f.lead(p.state, sym), api.Item{Rule: p.item.Rule, At: at + 1}}, k)
	begin := f.rests[p.item.Rule-items.Goal][at].ahead(k)
	for i, r := range f.g.Rules {
		if r.Left == sym {
			f.add(place{p.state, api.Item{Rule: i}}, begin)
		}
	}
}

// lead is where a symbol that may come leads from state n.
func (f *flow) lead(n, sym int) int {
	at, _ := slices.BinarySearch(f.states[n].Syms, sym)
	return f.states[n].To[at]
}

// looks tells what is known of the rules that are at their end in state n.
func (f *flow) looks(n int) []api.Look {
	var l []api.Look
	for rule := items.Goal; rule < len(f.g.Rules); rule++ {
		end := api.Item{Rule: rule, At: len(items.Right(f.g, rule))}
		if k := *f.of(place{n, end}); k != 0 {
			l = append(l, api.Look{Rule: rule, Kinds: k.List()})
		}
	}
	return l
}
