package dfa

import (
	"slices"

	"undergrowth/api"
)

// machine is an automaton over classes of bytes: of each state where each
// class leads, and which pattern it accepts.
type machine struct {
	next   [][]int
	accept []int
}

// explorer comes to all sets of places that can have taken the last byte of a
// row, each of which is a state. State 0 is the beginning, which is no set.
type explorer struct {
	machine
	joined  *joined
	classes int
	sets    []set          // those behind the beginning: set i is state i+1
	number  map[string]int // the state of a set, by its key
	room    set
	key     []byte
}

// explore tells whether there are no more states than may be.
func explore(j *joined, classes int) (machine, bool) {
	e := explorer{joined: j, classes: classes, number: map[string]int{}}
	e.accept = []int{j.null}
	e.leave(j.first)
	for i := 0; i < len(e.sets) && e.few(); i++ {
		e.leave(j.behind(e.sets[i]))
	}
	return e.machine, e.few()
}

// few tells whether the states that were come to may be.
func (e *explorer) few() bool { return len(e.accept) <= api.MaxStates }

// leave goes on by each class of bytes from the next state, behind which the
// next byte can be taken by s.
func (e *explorer) leave(s set) {
	row := make([]int, e.classes)
	for c := range row {
		e.room = e.joined.taking(s, c, e.room[:0])
		row[c] = e.state(e.room)
	}
	e.next = append(e.next, row)
}

// state is that of a set.
func (e *explorer) state(s set) int {
	if len(s) == 0 {
		return nowhere
	}
	e.key = s.key(e.key[:0])
	n, met := e.number[string(e.key)]
	if !met {
		n = len(e.accept)
		e.number[string(e.key)] = n
		e.sets = append(e.sets, slices.Clone(s))
		e.accept = append(e.accept, e.joined.accepts(s))
	}
	return n
}
