package dfa

import (
	"slices"

	"undergrowth/api"
)

// writer numbers blocks of states in the order in which they are come to.
type writer struct {
	block  []int // of each state of a machine
	dead   int   // the block of what leads nowhere
	number []int // of each block: -1: it was not come to
	some   []int // of each number: a state of its block
}

// write is the automaton whose states are the blocks of those of m.
func write(m machine, p *partition, c *classes) api.DFA {
	w := writer{block: p.block, dead: p.block[len(m.next)], number: slices.Repeat([]int{-1}, len(p.from))}
	// there is a first state even if it leads nowhere
	w.come(0)
	var d api.DFA
	for i := 0; i < len(w.some); i++ {
		s := w.some[i]
		row := make([]int, len(c.of))
		for b, class := range c.of {
			row[b] = w.numberOf(m.next[s][class])
		}
		d.Next = append(d.Next, row)
		d.Accept = append(d.Accept, m.accept[s])
	}
	return d
}

// numberOf is the number of a state's block.
func (w *writer) numberOf(s int) int {
	if s == nowhere || w.block[s] == w.dead {
		return nowhere
	}
	if w.number[w.block[s]] < 0 {
		w.come(s)
	}
	return w.number[w.block[s]]
}

// come gives the block of s the next number.
func (w *writer) come(s int) {
	w.number[w.block[s]] = len(w.some)
	w.some = append(w.some, s)
}
