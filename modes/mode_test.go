package modes

import (
	"sync"
	"testing"

	"undergrowth/api"
)

// P703 (Ways): an automaton is made when a token is first read in its mode, once, and none ahead of that.
func TestAutomataAreMadeWhenAskedFor(t *testing.T) {
	x, e := New(api.Lexer{Modes: 3, Rules: []api.LexRule{
		{Pattern: "a", Next: 1}, {Pattern: "b", Mode: 1, Next: 2}, {Pattern: "c", Mode: 2},
	}})
	if e != api.OK {
		t.Fatal(e)
	}
	made := func(want ...bool) {
		t.Helper()
		for i := range x.modes {
			if m := &x.modes[i]; (m.made.Next != nil) != want[i] || (m.places == nil) != want[i] {
				t.Errorf("mode %d: %d states, %d places; made: %v", i, len(m.made.Next), len(m.places), want[i])
			}
		}
	}
	made(false, false, false)
	x.One([]byte("abc"), 1, 1)
	made(false, true, false)
	first := &x.modes[1].made.Next[0]
	x.One([]byte("abc"), 0, 0)
	made(true, true, false)
	x.One([]byte("abc"), 2, 1)
	if &x.modes[1].made.Next[0] != first {
		t.Error("an automaton is made twice")
	}
	var group sync.WaitGroup
	got := make([]api.DFA, 16)
	for i := range got {
		group.Go(func() { got[i] = x.modes[2].automaton() })
	}
	group.Wait()
	made(true, true, true)
	for _, d := range got {
		if &d.Next[0] != &x.modes[2].made.Next[0] {
			t.Error("an automaton that is first asked for by many is made more than once")
		}
	}
}
