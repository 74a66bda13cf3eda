package posit

import (
	"undergrowth/api"
)

// size of a pattern: how many places it has, and how deep it is. Neither is
// counted beyond one more than may be, so that each pattern has a size, one
// without an end, too.
type size struct {
	places, depth int
}

// add makes s that of a pattern with one more kid, of that size.
func (s *size) add(kid size) {
	s.places = min(s.places+kid.places, api.MaxPosits+1)
	s.depth = min(max(s.depth, kid.depth+1), deepest+1)
}

// kids are those of x that are looked at. A pattern without them is a place,
// or takes nothing.
func kids(x *api.Re) []api.Re {
	switch x.Op {
	case api.RCat, api.RAlt:
		return x.Kids
	case api.RStar, api.RPlus, api.ROpt:
		return x.Kids[:min(1, len(x.Kids))]
	}
	return nil
}

// mark is what is known of a pattern that has kids.
type mark struct {
	size
	rest []api.Re // the kids that are still to be looked at
	done bool
	self bool // it stands within itself
}

// survey tells the size of a pattern and of all within. It keeps the way down
// in a list of its own, and does not call itself: a pattern that is handed in
// may be deeper than calls can be. It goes through each pattern once, wherever
// that stands: lists of kids may share memory, many times over, or hold
// themselves.
type survey struct {
	number map[*api.Re]int // where the mark of a pattern is
	marks  []mark
	path   []int // the numbers of those that are not done, each within the one ahead
}

// run goes through x and all that is within.
func (s *survey) run(x *api.Re) {
	s.number = map[*api.Re]int{}
	s.open(x)
	for len(s.path) > 0 {
		top := s.path[len(s.path)-1]
		if len(s.marks[top].rest) == 0 {
			s.close(top)
		} else {
			s.look(top)
		}
	}
}

// open begins with x, if it has kids.
func (s *survey) open(x *api.Re) {
	l := kids(x)
	if len(l) == 0 {
		return
	}
	n := len(s.marks)
	s.number[x] = n
	s.marks = append(s.marks, mark{rest: l})
	s.path = append(s.path, n)
}

// look adds the next kid of the last one of the path, or goes down to it.
func (s *survey) look(top int) {
	kid := &s.marks[top].rest[0]
	s.marks[top].rest = s.marks[top].rest[1:]
	if len(kids(kid)) == 0 {
		s.marks[top].add(s.sizeOf(kid))
		return
	}
	n, met := s.number[kid]
	switch {
	case !met:
		s.open(kid)
	case s.marks[n].done:
		s.marks[top].add(s.marks[n].size)
	default:
		s.marks[n].self = true
		s.marks[top].add(size{depth: deepest})
	}
}

// close ends the last one of the path and adds it to the one ahead of it. What
// stands within itself has each of its places without end.
func (s *survey) close(top int) {
	m := &s.marks[top]
	m.done = true
	if m.self && m.places > 0 {
		m.places = api.MaxPosits + 1
	}
	s.path = s.path[:len(s.path)-1]
	if len(s.path) > 0 {
		s.marks[s.path[len(s.path)-1]].add(m.size)
	}
}

// sizeOf is the size of a pattern that was gone through.
func (s *survey) sizeOf(x *api.Re) size {
	switch {
	case len(kids(x)) > 0:
		return s.marks[s.number[x]].size
	case x.Op == api.RSet:
		return size{places: 1, depth: 1}
	}
	return size{depth: 1}
}
