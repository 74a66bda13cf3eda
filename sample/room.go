package sample

import (
	"slices"

	"undergrowth/api"
)

// Roomy is Sums, each list with spare room.
func Roomy() api.Grammar {
	g := Sums()
	for i, r := range g.Rules {
		g.Rules[i].Right = append(slices.Clone(r.Right), 7, 8, 9)[:len(r.Right)]
	}
	n := len(g.Rules)
	g.Rules = append(g.Rules, api.Rule{Left: 7, Right: []int{5}}, api.Rule{Left: 8})[:n]
	g.Forbid = [][3]int{{1, 1, 2}, {7, 7, 7}}[:1]
	g.RuleClass, g.KindClass = []int{1, 2, 333}[:2], []int{3, 4, 555}[:2]
	return g
}

// Spread is g with the spare room of its lists.
func Spread(g api.Grammar) api.Grammar {
	g.Rules = slices.Clone(g.Rules[:cap(g.Rules)])
	for i, r := range g.Rules {
		g.Rules[i].Right = r.Right[:cap(r.Right)]
	}
	g.Forbid = g.Forbid[:cap(g.Forbid)]
	g.RuleClass = g.RuleClass[:cap(g.RuleClass)]
	g.KindClass = g.KindClass[:cap(g.KindClass)]
	return g
}

// Spoil fills a list and its spare room with a thing.
func Spoil[T any](l []T, with T) {
	l = l[:cap(l)]
	for i := range l {
		l[i] = with
	}
}
