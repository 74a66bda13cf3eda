package looks_test

import (
	"cmp"
	"reflect"
	"slices"
	"sync"
	"testing"

	"undergrowth/api"
	"undergrowth/cycle"
	"undergrowth/items"
	"undergrowth/looks"
	"undergrowth/sample"
	"undergrowth/sets"
)

// one is an item of LR(1): with a kind that may come right behind its rule.
type one struct {
	api.Item
	kind int
}

// key is a text that no other row of items has.
func key(l []api.Item) string {
	var b []byte
	for _, it := range l {
		b = append(b, byte(it.Rule+1), byte(it.At))
	}
	return string(b)
}

// keyOne is a text that no other row of items of LR(1) has.
func keyOne(l []one) string {
	var b []byte
	for _, x := range l {
		b = append(b, byte(x.Rule+1), byte(x.At), byte(x.kind))
	}
	return string(b)
}

// rightOf is what a rule comes to; the rule -1 comes to Start alone.
func rightOf(g api.Grammar, rule int) []int {
	if rule < 0 {
		return []int{g.Start}
	}
	return g.Rules[rule].Right
}

// rest is how that begins which stands behind the symbol at an item's point.
type rest struct {
	begin []int
	null  bool
}

// canonical makes the canonical states of LR(1); rests keeps what was asked of package sets.
type canonical struct {
	g     api.Grammar
	rests map[api.Item]rest
}

// comes is the kinds that may come behind the symbol at the point of x.
func (c canonical) comes(x one) []int {
	r, ok := c.rests[x.Item]
	if !ok {
		r.begin, r.null = sets.FirstOf(c.g, rightOf(c.g, x.Rule)[x.At+1:])
		c.rests[x.Item] = r
	}
	if r.null {
		return append(slices.Clone(r.begin), x.kind)
	}
	return r.begin
}

// closed is the items l and all that may begin where one of them has its point.
func (c canonical) closed(l []one) []one {
	all, seen := slices.Clone(l), map[one]bool{}
	for n := 0; n < len(all); n++ {
		right := rightOf(c.g, all[n].Rule)
		if all[n].At == len(right) || right[all[n].At] < 0 {
			continue
		}
		kinds := c.comes(all[n])
		for i, r := range c.g.Rules {
			for _, k := range kinds {
				x := one{api.Item{Rule: i}, k}
				if r.Left == right[all[n].At] && !seen[x] {
					seen[x] = true
					all = append(all, x)
				}
			}
		}
	}
	return all
}

// further is the items whose point is one further, of each symbol, rising.
func (c canonical) further(l []one) map[int][]one {
	next := map[int][]one{}
	for _, x := range l {
		if right := rightOf(c.g, x.Rule); x.At < len(right) {
			s := right[x.At]
			x.At++
			next[s] = append(next[s], x)
		}
	}
	for _, l := range next {
		slices.SortFunc(l, func(x, y one) int {
			return cmp.Or(cmp.Compare(x.Rule, y.Rule), cmp.Compare(x.At, y.At), cmp.Compare(x.kind, y.kind))
		})
	}
	return next
}

// states is the kernels of all canonical states, if there are at most so many.
func (c canonical) states(most int) ([][]one, bool) {
	all := [][]one{{{api.Item{Rule: -1}, c.g.Kinds}}}
	seen := map[string]bool{keyOne(all[0]): true}
	for n := 0; n < len(all) && len(all) <= most; n++ {
		for _, l := range c.further(c.closed(all[n])) {
			if k := keyOne(l); !seen[k] {
				seen[k] = true
				all = append(all, l)
			}
		}
	}
	return all, len(all) <= most
}

// note is that a kind may come behind a rule at its end in a state.
type note struct{ state, rule, kind int }

// told is what is told if just these notes are right: of each state, of each item of Close of its items whose point is at the end.
func told(g api.Grammar, states []api.State, notes map[note]bool) [][]api.Look {
	all := make([][]api.Look, len(states))
	for i, s := range states {
		for _, it := range items.Close(g, s.Items) {
			if it.At < len(rightOf(g, it.Rule)) {
				continue
			}
			l := api.Look{Rule: it.Rule}
			for k := range g.Kinds + 1 {
				if notes[note{i, it.Rule, k}] {
					l.Kinds = append(l.Kinds, k)
				}
			}
			all[i] = append(all[i], l)
		}
	}
	return all
}

// byCanonical is what is told by the document's words, and how many canonical states there are; nothing, and 0, if they are more than so many.
func byCanonical(g api.Grammar, states []api.State, most int) ([][]api.Look, int) {
	c := canonical{g, map[api.Item]rest{}}
	all, ok := c.states(most)
	if !ok {
		return nil, 0
	}
	numbers, notes := map[string]int{}, map[note]bool{}
	for i, s := range states {
		numbers[key(s.Items)] = i
	}
	for _, kernel := range all {
		var its []api.Item
		for _, x := range kernel {
			its = append(its, x.Item)
		}
		i := numbers[key(slices.Compact(its))]
		for _, x := range c.closed(kernel) {
			if x.At == len(rightOf(g, x.Rule)) {
				notes[note{i, x.Rule, x.kind}] = true
			}
		}
	}
	return told(g, states, notes), len(all)
}

// holds looks at what is told of g, held against the canonical states, if they are at most so many; it answers how many these are, and how many states.
func holds(t *testing.T, g api.Grammar, most int) (int, int) {
	t.Helper()
	states, e := items.States(g)
	if e != api.OK {
		tells(t, "by words", g, nil, e)
		return 0, 0
	}
	want, n := byCanonical(g, states, most)
	if n > 0 {
		tells(t, "by words", g, want, api.OK)
	}
	if t.Failed() {
		t.Fatalf("%+v", g)
	}
	return n, len(states)
}

// P1501: many grammars, held against their canonical states.
func TestManyGrammars(t *testing.T) {
	next := sample.Chance(15)
	good, split, longest := 0, 0, 0
	for i := range 20000 {
		n, states := holds(t, next.Grammar(5, 4, 14, 1+i%5), 3000)
		if n > 0 {
			good++
		}
		if n > states {
			split++
		}
		longest = max(longest, n)
	}
	if good < 500 || split < 300 || longest < 100 {
		t.Errorf("%d grammars, %d of them with canonical states of the same items, at most %d", good, split, longest)
	}
}

// P1501: greater grammars, up to the greatest.
func TestGreatGrammars(t *testing.T) {
	next := sample.Chance(1501)
	good, longest := 0, 0
	for range 150 {
		n, states := holds(t, next.Great(), 5000)
		if n > 0 {
			good, longest = good+1, max(longest, states)
		}
	}
	if good < 30 || longest < 200 {
		t.Errorf("%d grammars, of at most %d states", good, longest)
	}
}

// P1501: as many states as may be; one more is refused.
func TestMostStates(t *testing.T) {
	base, _ := items.States(sample.Wide(0))
	for more := range 3 {
		g := sample.Wide(api.MaxItems - len(base) - 1 + more)
		if more == 2 {
			tells(t, "too many", g, nil, api.ErrLong)
		} else if _, n := holds(t, g, 3000); n != api.MaxItems-1+more {
			t.Errorf("%d states", n)
		}
	}
}

// byDerivations notes what comes of Start when the last name of a row is always taken first, of rows of at most so many symbols: where what stands ahead of the name and its rule lead to, the kind that stands right behind may come behind that rule.
func byDerivations(g api.Grammar, states []api.State, most int) map[note]bool {
	row := func(l []int) string {
		b := make([]byte, len(l))
		for i, s := range l {
			b[i] = byte(s)
		}
		return string(b)
	}
	begin := []int{g.Start}
	notes := map[note]bool{{sample.Walk(states, begin), -1, g.Kinds}: true}
	all, seen := [][]int{begin}, map[string]bool{row(begin): true}
	for n := 0; n < len(all); n++ {
		at := len(all[n]) - 1
		for at >= 0 && all[n][at] < 0 {
			at--
		}
		for i, r := range g.Rules {
			if at < 0 || r.Left != all[n][at] {
				continue
			}
			ahead := slices.Concat(all[n][:at], r.Right)
			kind := g.Kinds
			if at+1 < len(all[n]) {
				kind = -1 - all[n][at+1]
			}
			notes[note{sample.Walk(states, ahead), i, kind}] = true
			now := append(ahead, all[n][at+1:]...)
			if k := row(now); len(now) <= most && !seen[k] {
				seen[k] = true
				all = append(all, now)
			}
		}
	}
	return notes
}

// P1501: what may come behind a rule is what comes behind it in something that Start derives: all grammars of two names, a kind and up to three rules of up to two symbols.
func TestAllSmallGrammars(t *testing.T) {
	good, notes := 0, 0
	sample.Small(func(g api.Grammar) {
		for g.Start = range 2 {
			if n, _ := holds(t, g, 3000); n == 0 {
				continue
			}
			states, _ := items.States(g)
			l := byDerivations(g, states, 6)
			tells(t, "by derivations", g, told(g, states, l), api.OK)
			good, notes = good+1, notes+len(l)
		}
		if t.Failed() {
			t.Fatalf("%+v", g)
		}
	})
	if good < 100 || notes < 1000 {
		t.Errorf("%d grammars, %d notes", good, notes)
	}
}

// count is how many kinds are told in all.
func count(l [][]api.Look) int {
	n := 0
	for _, state := range l {
		for _, x := range state {
			n += len(x.Kinds)
		}
	}
	return n
}

// P1501: the same of many grammars that are greater: all that short rows note is told, and most often no more is.
func TestManyDerivations(t *testing.T) {
	next := sample.Chance(150115)
	good, all := 0, 0
	for good < 300 {
		g := next.Grammar(3, 3, 8, 3)
		if _, e := cycle.Check(g); e != api.OK || len(g.Rules) <= g.Names {
			continue
		}
		states, _ := items.States(g)
		l, _ := looks.Of(g)
		notes := byDerivations(g, states, 7)
		for x := range notes {
			isTold := func(y api.Look) bool { return y.Rule == x.rule && slices.Contains(y.Kinds, x.kind) }
			if !slices.ContainsFunc(l[x.state], isTold) {
				t.Fatalf("%+v is not told: %+v", x, g)
			}
		}
		if good++; len(notes) == count(l) {
			all++
		}
	}
	if all < 250 {
		t.Errorf("%d of %d grammars", all, good)
	}
}

// P1502: what is handed in stays as it is, its spare room too.
func TestHandedInStays(t *testing.T) {
	want, _ := looks.Of(sample.Sums())
	g, was := sample.Roomy(), sample.Spread(sample.Roomy())
	tells(t, "roomy", g, want, api.OK)
	if now := sample.Spread(g); !reflect.DeepEqual(now, was) {
		t.Errorf("what is handed in: %+v; was %+v", now, was)
	}
	for _, x := range sample.NotForm() {
		g, was := x.Grammar, x.Grammar
		was.Rules = slices.Clone(g.Rules)
		tells(t, "no grammar", g, nil, x.Err)
		if !reflect.DeepEqual(g, was) {
			t.Errorf("what is handed in: %+v; was %+v", g, was)
		}
	}
}

// copied is l in memory of its own.
func copied(l [][]api.Look) [][]api.Look {
	all := make([][]api.Look, len(l))
	for i := range l {
		for _, x := range l[i] {
			all[i] = append(all[i], look(x.Rule, slices.Clone(x.Kinds)...))
		}
	}
	return all
}

// P1502: what is answered is new memory, each list of its own, its spare room too: what is done to one turns no other, nor what is told later.
func TestAnswersAreNew(t *testing.T) {
	g := sample.Sums()
	l, _ := looks.Of(g)
	other, _ := looks.Of(g)
	want := copied(l)
	for i := range l {
		for j := range l[i] {
			sample.Spoil(l[i][j].Kinds, 99)
			for k := range l[i][j].Kinds {
				l[i][j].Kinds[k] = want[i][j].Kinds[k]
			}
			if !same(l, want) {
				t.Fatalf("state %d, rule %d, spoiled: %v; want %v", i, l[i][j].Rule, l, want)
			}
		}
		was := slices.Clone(l[i])
		sample.Spoil(l[i], look(77))
		copy(l[i], was)
		if !same(l, want) {
			t.Fatalf("state %d, spoiled: %v; want %v", i, l, want)
		}
	}
	sample.Spoil(l, nil)
	if !same(other, want) {
		t.Errorf("another answer: %v; want %v", other, want)
	}
	tells(t, "anew", g, want, api.OK)
}

// P1502: what is told hangs on the arguments alone: one grammar that is turned is gone through anew each time.
func TestNothingIsKept(t *testing.T) {
	g := sample.Grammar(2, 2, "AaB", "Bbb", "BA")
	for range 3 {
		tells(t, "as it was", g, [][]api.Look{nil, nil, row(look(-1, 2)), nil, row(look(2, 2)), row(look(0, 2)), row(look(1, 2))}, api.OK)
		g.Rules[0].Right[1] = -2
		tells(t, "a name turned into a kind", g, nil, api.ErrUseless)
		g.Rules[0].Right[1], g.Rules[1].Right = 1, nil
		tells(t, "a rule turned into nothing", g, [][]api.Look{nil, row(look(1, 2)), row(look(-1, 2)), row(look(2, 2)), row(look(0, 2))}, api.OK)
		g.Rules[1].Right, g.Start = []int{-2, -2}, 5
		tells(t, "none", g, nil, api.ErrName)
		g.Start = 0
	}
}

// P1502: who asks beside turns nothing.
func TestManyAsk(t *testing.T) {
	next := sample.Chance(1502)
	var all []api.Grammar
	var want [][][]api.Look
	for len(all) < 20 {
		g := next.Grammar(5, 4, 14, 4)
		if l, e := looks.Of(g); e == api.OK {
			all, want = append(all, g), append(want, copied(l))
		}
	}
	var group sync.WaitGroup
	for k := range 4 {
		group.Go(func() {
			for i := range 200 {
				n := (i + 7*k) % len(all)
				tells(t, "one of many", all[n], want[n], api.OK)
			}
		})
	}
	group.Wait()
}
