package items

import "undergrowth/api"

// automaton is the states of g that are come to so far: what stands in them,
// and which number each has by that.
type automaton struct {
	g       api.Grammar
	kernels []set
	states  []api.State
	numbers map[set]int
}

// number is that of the state of these items, which is made where there is
// none yet.
func (a *automaton) number(kernel set) int {
	n, ok := a.numbers[kernel]
	if !ok {
		n = len(a.kernels)
		a.numbers[kernel] = n
		a.kernels = append(a.kernels, kernel)
		a.states = append(a.states, api.State{Items: kernel.list()})
	}
	return n
}

// lead fills in where state n leads, by each symbol.
func (a *automaton) lead(n int) {
	var syms, to []int
	for i, kernel := range further(a.g, a.kernels[n]) {
		if kernel != (set{}) {
			syms = append(syms, i-a.g.Kinds)
			to = append(to, a.number(kernel))
		}
	}
	a.states[n].Syms, a.states[n].To = syms, to
}

// further is, of each symbol from the last kind to the last name, the items of
// all that s stands for that have it behind their point, the point one further.
func further(g api.Grammar, s set) []set {
	next := make([]set, g.Kinds+g.Names)
	for _, it := range closed(g, s).list() {
		if sym, ok := behind(g, it); ok {
			it.At++
			next[g.Kinds+sym].add(it)
		}
	}
	return next
}
