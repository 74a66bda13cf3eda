package sample

import (
	"math"
	"slices"

	"undergrowth/api"
)

// Fault is a grammar that is none, and what grammar.Form tells of it.
type Fault struct {
	Grammar api.Grammar
	At      int
	Err     api.Errno
}

// NotForm is grammars that are none, by all that grammar.Form looks at.
func NotForm() []Fault {
	var l []Fault
	add := func(at int, e api.Errno, turns ...func(g *api.Grammar)) {
		for _, turn := range turns {
			g := Sums()
			turn(&g)
			l = append(l, Fault{g, at, e})
		}
	}
	for _, n := range []int{math.MinInt, -1, 0, api.MaxNames + 1, math.MaxInt} {
		add(-1, api.ErrLong, func(g *api.Grammar) { g.Names = n })
	}
	for _, n := range []int{math.MinInt, -1, api.MaxKinds + 1, math.MaxInt} {
		add(-1, api.ErrLong, func(g *api.Grammar) { g.Kinds = n })
	}
	add(-1, api.ErrLong,
		func(g *api.Grammar) { *g = api.Grammar{} },
		func(g *api.Grammar) { g.Rules = append(g.Rules, make([]api.Rule, api.MaxRules)...) },
		func(g *api.Grammar) { g.Forbid = slices.Repeat([][3]int{{1, 1, 2}}, 201) })
	for _, n := range []int{math.MinInt, -1, 4, math.MaxInt} {
		add(-1, api.ErrName, func(g *api.Grammar) { g.Start = n })
		add(8, api.ErrName, func(g *api.Grammar) { g.Rules[8].Left = n })
	}
	for _, n := range []int{math.MinInt, -8, 4, math.MaxInt} {
		add(8, api.ErrName, func(g *api.Grammar) { g.Rules[8].Right[0] = n })
		add(5, api.ErrName, func(g *api.Grammar) { g.Rules[5].Right[3] = n })
	}
	add(-1, api.ErrArg,
		func(g *api.Grammar) { g.RuleClass = make([]int, 10) },
		func(g *api.Grammar) { g.RuleClass = []int{101} },
		func(g *api.Grammar) { g.KindClass = make([]int, 8) },
		func(g *api.Grammar) { g.KindClass = []int{-1} })
	add(0, api.ErrLong, func(g *api.Grammar) { g.Rules[0].Right = make([]int, 9) })
	add(3, api.ErrArg,
		func(g *api.Grammar) { g.Rules[3].Dyn = 1001 },
		func(g *api.Grammar) { g.Rules[3].Dyn = math.MinInt })
	add(5, api.ErrName, func(g *api.Grammar) { g.Names = 3 })
	add(1, api.ErrName, func(g *api.Grammar) { g.Kinds = 5 })
	add(-1, api.ErrName, func(g *api.Grammar) { g.Forbid = [][3]int{{1, 1, 0}} })
	return l
}
