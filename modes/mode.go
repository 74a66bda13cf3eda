package modes

import (
	"sync"

	"undergrowth/api"
	"undergrowth/dfa"
)

// mode is the rules that hold in one, in order. Its automaton is made when it
// is first asked for: a text need not come to all modes.
type mode struct {
	goals  []goal
	places []api.Posits // of each rule's pattern, till the automaton is made
	once   sync.Once
	made   api.DFA
}

// goal is what a rule makes of what its pattern takes.
type goal struct {
	kind, next int
}

// add puts a rule behind the others.
func (m *mode) add(r api.LexRule, p api.Posits) {
	m.goals = append(m.goals, goal{kind: r.Kind, next: r.Next})
	m.places = append(m.places, p)
}

// automaton is that of the mode's rules; of a nil mode one without states,
// which takes nothing.
func (m *mode) automaton() api.DFA {
	if m == nil {
		return api.DFA{}
	}
	m.once.Do(m.prepare)
	return m.made
}

// prepare makes the automaton. That the places fit is known from modesOf.
func (m *mode) prepare() {
	m.made, _ = dfa.Of(m.places)
	m.places = nil
}
