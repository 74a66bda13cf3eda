package dfa

import (
	"slices"

	"undergrowth/api"
)

// partition sorts states into blocks; those of one block stand side by side.
type partition struct {
	order    []int // the states, block by block
	where    []int // of each state: its place in order
	block    []int // of each state
	from, to []int // of each block: where it begins and ends in order
	marked   []int // of each block: how many of its states are marked; they stand ahead
	touched  []int // the blocks with marked states
	work     []int // the blocks by which all are to be split yet
}

// least puts states of a machine into one block if, whatever comes behind them,
// they accept the same. One more state stands behind those of the machine: the
// one that there is nowhere; what leads to no pattern is in its block.
//
// A block that is split leaves its larger part as itself, and by the smaller
// part all are split anew: what the larger one would tell, the smaller one and
// the whole have told. So a state is looked at only when its block has halved.
func least(m machine, classes int) *partition {
	p := whole(len(m.next) + 1)
	for a := range api.MaxLex {
		for s, accept := range m.accept {
			if accept == a {
				p.mark(s)
			}
		}
		p.split()
	}
	from := originsOf(m, classes)
	for len(p.work) > 0 {
		b := p.work[len(p.work)-1]
		p.work = p.work[:len(p.work)-1]
		// the block itself may be split on the way
		states := slices.Clone(p.order[p.from[b]:p.to[b]])
		for c := range classes {
			for _, s := range states {
				from.each(c, s, p.mark)
			}
			p.split()
		}
	}
	return p
}

// whole is one block of all states.
func whole(states int) *partition {
	p := &partition{block: make([]int, states), from: []int{0}, to: []int{states}, marked: []int{0}}
	for s := range states {
		p.order = append(p.order, s)
		p.where = append(p.where, s)
	}
	return p
}

// mark marks a state that is not marked yet: a class leads from a state to one
// state alone, so none comes twice ahead of a split.
func (p *partition) mark(s int) {
	b := p.block[s]
	at := p.from[b] + p.marked[b]
	if p.marked[b] == 0 {
		p.touched = append(p.touched, b)
	}
	other := p.order[at]
	p.order[at], p.order[p.where[s]] = s, other
	p.where[s], p.where[other] = at, p.where[s]
	p.marked[b]++
}

// split parts the marked states from the others of their blocks, and marks none
// any more.
func (p *partition) split() {
	for _, b := range p.touched {
		from, to := p.from[b], p.to[b]
		middle := from + p.marked[b]
		p.marked[b] = 0
		switch {
		case middle == to:
		case middle-from <= to-middle:
			p.from[b] = middle
			p.add(from, middle)
		default:
			p.to[b] = middle
			p.add(middle, to)
		}
	}
	p.touched = p.touched[:0]
}

// add makes a block of states of another one.
func (p *partition) add(from, to int) {
	b := len(p.from)
	p.from, p.to, p.marked = append(p.from, from), append(p.to, to), append(p.marked, 0)
	for _, s := range p.order[from:to] {
		p.block[s] = b
	}
	p.work = append(p.work, b)
}

// origins tell from where a class leads to a state: one such state, from each
// of them one more, -1 behind the last one.
type origins struct {
	states     int
	some, more []int // of each class, of each state
}

// originsOf tells those of a machine, and of the state behind its others.
func originsOf(m machine, classes int) *origins {
	n := len(m.next) + 1
	o := &origins{n, slices.Repeat([]int{-1}, n*classes), make([]int, n*classes)}
	for s, row := range m.next {
		for c, to := range row {
			o.add(c, s, to)
		}
	}
	for c := range classes {
		o.add(c, n-1, nowhere)
	}
	return o
}

// add notes where a class leads from s.
func (o *origins) add(class, s, to int) {
	if to == nowhere {
		to = o.states - 1
	}
	base := class * o.states
	o.more[base+s] = o.some[base+to]
	o.some[base+to] = s
}

// each tells visit all states from which a class leads to one.
func (o *origins) each(class, to int, visit func(int)) {
	base := class * o.states
	for s := o.some[base+to]; s >= 0; s = o.more[base+s] {
		visit(s)
	}
}
