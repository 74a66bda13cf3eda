package grammar_test

import (
	"math"
	"reflect"
	"slices"
	"sync"
	"testing"

	"undergrowth/api"
	"undergrowth/grammar"
	"undergrowth/sample"
)

// sums is a grammar of the names sum, term and list, and of the kinds + * ( ) x and one of no use.
func sums() api.Grammar {
	return api.Grammar{
		Names: 3, Kinds: 6, Start: 2,
		Rules: []api.Rule{
			{Left: 0, Right: []int{0, -1, 1}, Dyn: 3},
			{Left: 0, Right: []int{1}},
			{Left: 1, Right: []int{1, -2, 1}, Dyn: -2},
			{Left: 1, Right: []int{-3, 0, -4}},
			{Left: 1, Right: []int{-5}},
			{Left: 2},
			{Left: 2, Right: []int{2, 0}},
		},
		Forbid:    [][3]int{{0, 2, 2}, {2, 2, 2}, {6, 0, 5}},
		RuleClass: []int{0, 1, 2, 3},
		KindClass: []int{9, 9, 0, 0, 100},
	}
}

// tells looks whether Form tells that place and error.
func tells(t *testing.T, what string, g api.Grammar, at int, e api.Errno) {
	t.Helper()
	if gotAt, got := grammar.Form(g); gotAt != at || got != e {
		t.Errorf("%s: Form: %d, %v; want %d, %v", what, gotAt, got, at, e)
	}
}

// turned looks at sums, turned by f.
func turned(t *testing.T, what string, f func(g *api.Grammar), at int, e api.Errno) {
	t.Helper()
	g := sums()
	f(&g)
	tells(t, what, g, at, e)
}

// outside is numbers that are not from 0 to n - 1.
func outside(n int) []int {
	return []int{-1, -2, -1 << 32, math.MinInt32, math.MinInt + 1, math.MinInt, n, n + 1, 256 + n, 1 << 32, 1<<32 + 1, math.MaxInt32, math.MaxInt - 1, math.MaxInt}
}

// P1001: grammars of all shapes that can be: nothing is asked of what they are good for.
func TestGrammars(t *testing.T) {
	tells(t, "sums", sums(), -1, api.OK)
	for i, g := range []api.Grammar{
		{Names: 1},
		{Names: 40, Start: 39},
		{Names: 40, Kinds: 40, Start: 17},
		{Names: 1, Rules: []api.Rule{}, Forbid: [][3]int{}, RuleClass: []int{}, KindClass: []int{}},
		{Names: 1, Rules: []api.Rule{{}}},
		{Names: 1, Rules: []api.Rule{{Right: []int{}}, {}, {}}},
		{Names: 1, Rules: []api.Rule{{Right: []int{0}}}},                     // runs in a circle
		{Names: 2, Rules: []api.Rule{{Right: []int{1}}, {Right: []int{0}}}},  // a name without rules
		{Names: 2, Kinds: 1, Rules: []api.Rule{{Left: 1, Right: []int{-1}}}}, // one that Start does not come to
		{Names: 1, Kinds: 1, Rules: slices.Repeat([]api.Rule{{Right: []int{-1}}}, 60)},
		{Names: 40, Kinds: 40, Rules: []api.Rule{{Left: 39, Right: []int{39, -40, 0, -1, 20, -20, 39, -40}}}},
		{Names: 1, Rules: []api.Rule{{Right: []int{0}}}, Forbid: [][3]int{{0, 0, 0}}},
	} {
		tells(t, "grammar "+string(rune('a'+i)), g, -1, api.OK)
	}
}

// P1001: how many Names, Kinds, rules and how much of Forbid there may be.
func TestHowMany(t *testing.T) {
	for n := 1; n <= api.MaxNames; n++ {
		tells(t, "names", api.Grammar{Names: n, Start: n - 1}, -1, api.OK)
	}
	for _, n := range append(outside(41), 0) {
		tells(t, "names", api.Grammar{Names: n}, -1, api.ErrLong)
		turned(t, "names", func(g *api.Grammar) { g.Names = n }, -1, api.ErrLong)
	}
	for n := 0; n <= api.MaxKinds; n++ {
		tells(t, "kinds", api.Grammar{Names: 1, Kinds: n}, -1, api.OK)
	}
	for _, n := range outside(41) {
		tells(t, "kinds", api.Grammar{Names: 1, Kinds: n}, -1, api.ErrLong)
		turned(t, "kinds", func(g *api.Grammar) { g.Kinds = n }, -1, api.ErrLong)
	}
	for _, n := range []int{0, 1, 7, 59, 60, 61, 62, 256, 100000} {
		want := api.OK
		if n > 60 {
			want = api.ErrLong
		}
		tells(t, "rules", api.Grammar{Names: 1, Rules: make([]api.Rule, n)}, -1, want)
		tells(t, "rules", api.Grammar{Names: 40, Kinds: 40, Rules: slices.Repeat(sums().Rules[:1], n)}, -1, want)
	}
	for _, n := range []int{0, 1, 2, 199, 200, 201, 202, 256, 100000} {
		want := api.OK
		if n > 200 {
			want = api.ErrLong
		}
		turned(t, "forbid", func(g *api.Grammar) { g.Forbid = slices.Repeat(g.Forbid[:1], n) }, -1, want)
	}
}

// P1001: Start is a name, whether it has rules or not.
func TestStart(t *testing.T) {
	for n := 1; n <= api.MaxNames; n++ {
		for s := range n {
			tells(t, "start", api.Grammar{Names: n, Kinds: 40, Start: s}, -1, api.OK)
		}
		for _, s := range outside(n) {
			tells(t, "start", api.Grammar{Names: n, Kinds: 40, Start: s}, -1, api.ErrName)
		}
	}
}

// P1001: classes of rules and kinds: no more than there are, each from 0 to 100.
func TestClasses(t *testing.T) {
	for n := range 10 {
		rules, kinds := api.OK, api.OK
		if n > 7 {
			rules = api.ErrArg
		}
		if n > 6 {
			kinds = api.ErrArg
		}
		turned(t, "classes of rules", func(g *api.Grammar) { g.RuleClass = make([]int, n) }, -1, rules)
		turned(t, "classes of kinds", func(g *api.Grammar) { g.KindClass = make([]int, n) }, -1, kinds)
	}
	none := api.Grammar{Names: 9, RuleClass: []int{0}}
	tells(t, "class of no rule", none, -1, api.ErrArg)
	none = api.Grammar{Names: 9, KindClass: []int{0}}
	tells(t, "class of no kind", none, -1, api.ErrArg)
	for i := range 6 {
		for c := range 101 {
			turned(t, "class", func(g *api.Grammar) {
				g.RuleClass, g.KindClass = make([]int, 7), make([]int, 6)
				g.RuleClass[i], g.KindClass[i] = c, 100-c
			}, -1, api.OK)
		}
		for _, c := range outside(101) {
			turned(t, "class of a rule", func(g *api.Grammar) {
				g.RuleClass = make([]int, 7)
				g.RuleClass[i+1] = c
			}, -1, api.ErrArg)
			turned(t, "class of a kind", func(g *api.Grammar) {
				g.KindClass = make([]int, 6)
				g.KindClass[i] = c
			}, -1, api.ErrArg)
		}
	}
}

// P1001: a rule's name, of which Names alone tells how many there are.
func TestLeft(t *testing.T) {
	for i := range 7 {
		for left := range 40 {
			turned(t, "left", func(g *api.Grammar) {
				g.Names, g.Forbid = 40, nil
				g.Rules[i].Left = left
			}, -1, api.OK)
		}
		for _, left := range outside(3) {
			turned(t, "left", func(g *api.Grammar) { g.Rules[i].Left = left }, i, api.ErrName)
		}
		for _, left := range outside(40) {
			turned(t, "left", func(g *api.Grammar) { g.Names, g.Rules[i].Left = 40, left }, i, api.ErrName)
		}
	}
}

// noSymbols is numbers that are no symbol of so many names and kinds.
func noSymbols(names, kinds int) []int {
	return []int{names, names + 1, names + 256, 1 << 32, math.MaxInt - 1, math.MaxInt, -1 - kinds, -2 - kinds, -257 - kinds, -1 << 32, math.MinInt + 1, math.MinInt}
}

// P1001: a rule's symbols: names from 0 on, kinds from -1 on downward, each at any place.
func TestRight(t *testing.T) {
	for names := 1; names <= 40; names += 13 {
		for kinds := 0; kinds <= 40; kinds += 8 {
			g := api.Grammar{Names: names, Kinds: kinds, Rules: make([]api.Rule, 3)}
			for place := range api.MaxRight {
				g.Rules[1].Right = make([]int, place+1)
				for s := -kinds; s < names; s++ {
					g.Rules[1].Right[place] = s
					tells(t, "symbol", g, -1, api.OK)
				}
				for _, s := range noSymbols(names, kinds) {
					g.Rules[1].Right[place] = s
					tells(t, "no symbol", g, 1, api.ErrName)
				}
			}
		}
	}
}

// P1001: how many symbols a rule may have, and that one that is none is told ahead of that, wherever it stands.
func TestHowManySymbols(t *testing.T) {
	for _, n := range []int{0, 1, 7, 8, 9, 10, 16, 255, 256, 257, 100000} {
		for i := range 7 {
			long := func(g *api.Grammar) { g.Forbid, g.Rules[i].Right = nil, slices.Repeat([]int{i%2 - 1}, n) }
			heavy := func(g *api.Grammar) {
				long(g)
				g.Rules[i].Dyn = 1001
			}
			if n <= 8 {
				turned(t, "symbols", long, -1, api.OK)
				turned(t, "symbols, and Dyn", heavy, i, api.ErrArg)
			} else {
				turned(t, "too many symbols", long, i, api.ErrLong)
				turned(t, "too many symbols, and Dyn", heavy, i, api.ErrLong)
			}
			for _, place := range []int{0, 7, 8, n - 1} {
				if place < 0 || place >= n {
					continue
				}
				turned(t, "symbols, one is none", func(g *api.Grammar) {
					heavy(g)
					g.Rules[i].Right[place] = -7
				}, i, api.ErrName)
			}
		}
	}
}

// P1001: a rule's weight.
func TestDyn(t *testing.T) {
	for i := range 7 {
		for d := -1010; d <= 1010; d++ {
			at, want := -1, api.OK
			if d < -1000 || d > 1000 {
				at, want = i, api.ErrArg
			}
			turned(t, "weight", func(g *api.Grammar) { g.Rules[i].Dyn = d }, at, want)
		}
		for _, d := range []int{math.MinInt, math.MinInt + 1, math.MinInt + 1000, math.MinInt32, -1 << 32, 1 << 32, math.MaxInt32, math.MaxInt - 1000, math.MaxInt} {
			turned(t, "weight", func(g *api.Grammar) { g.Rules[i].Dyn = d }, i, api.ErrArg)
		}
	}
}

// P1001: what is forbidden is just a rule of the name that stands at a place of a rule.
func TestForbid(t *testing.T) {
	may := map[[3]int]int{
		{0, 0, 0}: 1, {0, 0, 1}: 1, // sum -> sum + term
		{0, 2, 2}: 1, {0, 2, 3}: 1, {0, 2, 4}: 1,
		{1, 0, 2}: 1, {1, 0, 3}: 1, {1, 0, 4}: 1, // sum -> term
		{2, 0, 2}: 1, {2, 0, 3}: 1, {2, 0, 4}: 1, // term -> term * term
		{2, 2, 2}: 1, {2, 2, 3}: 1, {2, 2, 4}: 1,
		{3, 1, 0}: 1, {3, 1, 1}: 1, // term -> ( sum )
		{6, 0, 5}: 1, {6, 0, 6}: 1, // list -> list sum
		{6, 1, 0}: 1, {6, 1, 1}: 1,
	}
	seen := 0
	for first := -2; first < 10; first++ {
		for place := -2; place < 10; place++ {
			for last := -7; last < 10; last++ {
				f, want := [3]int{first, place, last}, api.ErrName
				if may[f] == 1 {
					want = api.OK
					seen++
				}
				forbids(t, f, want)
			}
		}
	}
	if seen != len(may) {
		t.Errorf("%d of %d", seen, len(may))
	}
	for _, n := range append(outside(7), math.MinInt32-1) {
		forbids(t, [3]int{n, 0, 0}, api.ErrName)
		forbids(t, [3]int{0, n, 0}, api.ErrName)
		forbids(t, [3]int{0, 0, n}, api.ErrName)
		forbids(t, [3]int{n, n, n}, api.ErrName)
	}
}

// forbids looks at sums with f alone, at the first, at the last and at a place between.
func forbids(t *testing.T, f [3]int, e api.Errno) {
	t.Helper()
	turned(t, "forbid", func(g *api.Grammar) { g.Forbid = [][3]int{f} }, -1, e)
	for _, i := range []int{0, 100, 199} {
		turned(t, "forbid", func(g *api.Grammar) {
			g.Forbid = slices.Repeat(g.Forbid[1:2], 200)
			g.Forbid[i] = f
		}, -1, e)
	}
}

// P1001: a place of a rule that has fewer symbols than another one; a grammar without rules; a kind whose number is a name's.
func TestForbidEdges(t *testing.T) {
	long := api.Rule{Right: []int{0, 0, 0, 0, 0, 0, 0, 0}}
	for place := -1; place < 10; place++ {
		of := func(first int, e api.Errno) {
			t.Helper()
			tells(t, "place", api.Grammar{Names: 1, Rules: []api.Rule{long, {}, long}, Forbid: [][3]int{{first, place, 1}}}, -1, e)
		}
		want := api.OK
		if place < 0 || place > 7 {
			want = api.ErrName
		}
		of(0, want)
		of(1, api.ErrName)
		of(2, want)
		tells(t, "no rules", api.Grammar{Names: 1, Forbid: [][3]int{{0, place, 0}}}, -1, api.ErrName)
	}
	for name := range 5 {
		kinds := api.Rule{Right: []int{-1, -2, -3, -4, -5}}
		for place := range 5 {
			g := api.Grammar{Names: 5, Kinds: 5, Rules: []api.Rule{kinds, {Left: name}}, Forbid: [][3]int{{0, place, 1}}}
			tells(t, "kind", g, -1, api.ErrName)
		}
	}
}

// fault turns sums so that Form tells that place and error.
type fault struct {
	what string
	turn func(g *api.Grammar)
	at   int
	e    api.Errno
}

// faults is some of all kinds, in the order in which they are looked for; each leaves room for the others.
func faults() []fault {
	l := []fault{
		{"names", func(g *api.Grammar) { g.Names = 41 }, -1, api.ErrLong},
		{"names", func(g *api.Grammar) { g.Names = 0 }, -1, api.ErrLong},
		{"kinds", func(g *api.Grammar) { g.Kinds = 41 }, -1, api.ErrLong},
		{"kinds", func(g *api.Grammar) { g.Kinds = -1 }, -1, api.ErrLong},
		{"rules", func(g *api.Grammar) { g.Rules = append(g.Rules, make([]api.Rule, 60)...) }, -1, api.ErrLong},
		{"forbid", func(g *api.Grammar) { g.Forbid = slices.Repeat(g.Forbid, 70) }, -1, api.ErrLong},
		{"start", func(g *api.Grammar) { g.Start = 50 }, -1, api.ErrName},
		{"start", func(g *api.Grammar) { g.Start = -1 }, -1, api.ErrName},
		{"classes of rules", func(g *api.Grammar) { g.RuleClass = make([]int, 100) }, -1, api.ErrArg},
		{"class of a rule", func(g *api.Grammar) { g.RuleClass[3] = 101 }, -1, api.ErrArg},
		{"classes of kinds", func(g *api.Grammar) { g.KindClass = make([]int, 100) }, -1, api.ErrArg},
		{"class of a kind", func(g *api.Grammar) { g.KindClass[4] = -1 }, -1, api.ErrArg},
	}
	for i := range 7 {
		l = append(l,
			fault{"left", func(g *api.Grammar) { g.Rules[i].Left = 45 }, i, api.ErrName},
			fault{"right", func(g *api.Grammar) { g.Rules[i].Right = append(g.Rules[i].Right, 45) }, i, api.ErrName},
			fault{"right", func(g *api.Grammar) { g.Rules[i].Right = append(g.Rules[i].Right, -45) }, i, api.ErrName},
			fault{"long", func(g *api.Grammar) { g.Rules[i].Right = append(g.Rules[i].Right, make([]int, 9)...) }, i, api.ErrLong},
			fault{"weight", func(g *api.Grammar) { g.Rules[i].Dyn = 1001 }, i, api.ErrArg},
		)
	}
	return append(l,
		fault{"forbid", func(g *api.Grammar) { g.Forbid[0] = [3]int{0, 1, 0} }, -1, api.ErrName},
		fault{"forbid", func(g *api.Grammar) { g.Forbid[2] = [3]int{90, 1, 0} }, -1, api.ErrName})
}

// P1001: of two faults the one is told that is looked for first; in whatever order they are made.
func TestWhichFaultIsTold(t *testing.T) {
	all := faults()
	for i, a := range all {
		for _, b := range all[i:] {
			what := a.what + ", and " + b.what
			turned(t, what, func(g *api.Grammar) { a.turn(g); b.turn(g) }, a.at, a.e)
			if a.what != b.what {
				turned(t, what, func(g *api.Grammar) { b.turn(g); a.turn(g) }, a.at, a.e)
			}
		}
	}
}

// P1001: all faults together, and without the first one, and so on.
func TestManyFaults(t *testing.T) {
	all := faults()
	for i, first := range all {
		turned(t, first.what+", and all behind it", func(g *api.Grammar) {
			for _, f := range slices.Backward(all[i:]) {
				f.turn(g)
			}
		}, first.at, first.e)
	}
}

// chance is a row of numbers that seem to have no rule.
type chance uint64

// below is the next one, from 0 to n - 1.
func (c *chance) below(n int) int {
	*c = *c*6364136223846793005 + 1442695040888963407
	return int(uint64(*c)>>33) % n
}

// row is up to most numbers from low to high.
func (c *chance) row(most, low, high int) []int {
	l := make([]int, c.below(most+1))
	for i := range l {
		l[i] = low + c.below(high-low+1)
	}
	return l
}

// some is a small grammar whose numbers lie at the edge of what may be.
func (c *chance) some() api.Grammar {
	g := api.Grammar{Names: 1 + c.below(3), Kinds: c.below(3)}
	g.Start = c.below(g.Names)
	for range c.below(5) {
		r := api.Rule{Left: c.below(g.Names), Right: c.row(3, -g.Kinds, g.Names-1)}
		if c.below(12) == 0 {
			r.Left = c.below(5) - 1
		}
		if c.below(12) == 0 {
			r.Right = c.row(11, -g.Kinds, g.Names-1)
		}
		if n := len(r.Right); n > 0 && c.below(12) == 0 {
			r.Right[c.below(n)] = c.below(7) - 3
		}
		if c.below(12) == 0 {
			r.Dyn = 998 + c.below(5)
		}
		g.Rules = append(g.Rules, r)
	}
	for range c.below(3) {
		g.Forbid = append(g.Forbid, [3]int{c.below(5), c.below(4), c.below(5)})
	}
	if c.below(8) == 0 {
		g.RuleClass = c.row(5, -1, 8)
	}
	return g
}

// byWords is Form by the document's words: all that is wrong, in order, of which the first is told.
func byWords(g api.Grammar) (int, api.Errno) {
	var at []int
	var all []api.Errno
	unless := func(ok bool, i int, e api.Errno) {
		if !ok {
			at, all = append(at, i), append(all, e)
		}
	}
	between := func(n, low, high int) bool { return low <= n && n <= high }
	unless(between(g.Names, 1, 40) && between(g.Kinds, 0, 40) && len(g.Rules) <= 60 && len(g.Forbid) <= 200, -1, api.ErrLong)
	unless(between(g.Start, 0, g.Names-1), -1, api.ErrName)
	unless(len(g.RuleClass) <= len(g.Rules) && len(g.KindClass) <= g.Kinds, -1, api.ErrArg)
	for _, c := range append(slices.Clone(g.RuleClass), g.KindClass...) {
		unless(between(c, 0, 100), -1, api.ErrArg)
	}
	for i, r := range g.Rules {
		unless(between(r.Left, 0, g.Names-1), i, api.ErrName)
		for _, s := range r.Right {
			unless(between(s, -g.Kinds, g.Names-1), i, api.ErrName)
		}
		unless(len(r.Right) <= 8, i, api.ErrLong)
		unless(between(r.Dyn, -1000, 1000), i, api.ErrArg)
	}
	for _, f := range g.Forbid {
		stands := false
		for i, r := range g.Rules {
			for place, s := range r.Right {
				for k, x := range g.Rules {
					stands = stands || f == [3]int{i, place, k} && s == x.Left
				}
			}
		}
		unless(stands, -1, api.ErrName)
	}
	if len(all) == 0 {
		return -1, api.OK
	}
	return at[0], all[0]
}

// P1001: many grammars, held against the document's words.
func TestManyGrammars(t *testing.T) {
	next := chance(10)
	told := map[api.Errno]int{}
	for range 30000 {
		g := next.some()
		at, e := byWords(g)
		tells(t, "by its words", g, at, e)
		told[e]++
		if t.Failed() {
			t.Fatalf("%+v", g)
		}
	}
	for _, e := range []api.Errno{api.OK, api.ErrName, api.ErrArg, api.ErrLong} {
		if told[e] < 50 {
			t.Errorf("%v: %d times only", e, told[e])
		}
	}
}

// P1002: what is handed in stays as it is, its spare room too, whatever is told of it.
func TestHandedInStays(t *testing.T) {
	all := append(faults(), fault{"none", func(g *api.Grammar) {}, -1, api.OK})
	for _, f := range all {
		g, was := roomy(), roomy()
		f.turn(&g)
		f.turn(&was)
		tells(t, f.what, g, f.at, f.e)
		if !reflect.DeepEqual(sample.Spread(g), sample.Spread(was)) {
			t.Errorf("%s: Form turns what is handed in", f.what)
		}
	}
}

// roomy is sums, each list with spare room.
func roomy() api.Grammar {
	g := sums()
	for i, r := range g.Rules {
		g.Rules[i].Right = append(r.Right, 7, 8, 9)[:len(r.Right)]
	}
	g.Rules = append(g.Rules, api.Rule{Left: 7, Right: []int{5}}, api.Rule{Left: 8})[:7]
	g.Forbid = append(g.Forbid, [3]int{7, 7, 7}, [3]int{8, 8, 8})[:3]
	g.RuleClass = append(g.RuleClass, 7, 8, 9, 10)[:4]
	g.KindClass = append(g.KindClass, 7, 8, 9, 10)[:5]
	return g
}

// P1002: what is told hangs on the arguments alone: one grammar that is turned is looked at anew each time, and who asks beside turns nothing.
func TestNothingIsKept(t *testing.T) {
	g := sums()
	for range 3 {
		tells(t, "as it was", g, -1, api.OK)
		g.Rules[4].Right[0] = 3
		tells(t, "a symbol turned", g, 4, api.ErrName)
		g.Rules[4].Right[0] = -5
		g.Forbid[1][1] = 1
		tells(t, "a place turned", g, -1, api.ErrName)
		g.Forbid[1][1] = 2
	}
	all := faults()
	var group sync.WaitGroup
	for k := range 4 {
		group.Go(func() {
			for i := range 20 * len(all) {
				f := all[(i+11*k)%len(all)]
				turned(t, f.what, f.turn, f.at, f.e)
				tells(t, "one for all", g, -1, api.OK)
			}
		})
	}
	group.Wait()
}
