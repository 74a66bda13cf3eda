package sample

import "undergrowth/api"

// Chance is a row of numbers that seem to have no rule; it is the same each
// time that it begins with the same number.
type Chance uint64

// Below is the next number, from 0 to n - 1.
func (c *Chance) Below(n int) int {
	*c = *c*6364136223846793005 + 1442695040888963407
	return int(uint64(*c)>>33) % n
}

// Symbols is so many symbols of g.
func (c *Chance) Symbols(g api.Grammar, n int) []int {
	var l []int
	for range n {
		l = append(l, c.Below(g.Names+g.Kinds)-g.Kinds)
	}
	return l
}

// Grammar is one of at most so many names, kinds, rules, and symbols in a rule.
func (c *Chance) Grammar(names, kinds, rules, right int) api.Grammar {
	g := api.Grammar{Names: 1 + c.Below(names), Kinds: c.Below(kinds + 1)}
	g.Start = c.Below(g.Names)
	for range c.Below(rules + 1) {
		left := c.Below(g.Names)
		g.Rules = append(g.Rules, api.Rule{Left: left, Right: c.Symbols(g, c.Below(right+1))})
	}
	return g
}

// Great is a grammar of up to MaxNames names and MaxKinds kinds that has as
// many rules as may be: a row of names, each of which comes up, and ends.
func (c *Chance) Great() api.Grammar {
	g := api.Grammar{Names: 1 + c.Below(api.MaxNames), Kinds: 1 + c.Below(api.MaxKinds)}
	for i := range g.Names {
		right := []int{-1 - c.Below(g.Kinds)}
		if i+1 < g.Names {
			right = append(right, i+1)
		}
		g.Rules = append(g.Rules, api.Rule{Left: i, Right: right})
	}
	for len(g.Rules) < api.MaxRules {
		left, kind := c.Below(g.Names), -1-c.Below(g.Kinds)
		right := append([]int{kind}, c.Symbols(g, c.Below(api.MaxRight))...)
		g.Rules = append(g.Rules, api.Rule{Left: left, Right: right})
	}
	return g
}
