package looks

import (
	"undergrowth/api"
	"undergrowth/items"
	"undergrowth/sets"
)

// rest is how that begins which stands behind a symbol of a rule, and whether
// it can be nothing.
type rest struct {
	begin sets.Kinds
	null  bool
}

// ahead is how the rest begins together with what comes behind it.
func (r rest) ahead(behind sets.Kinds) sets.Kinds {
	if r.null {
		return r.begin | behind
	}
	return r.begin
}

// rests is the rest of each symbol of each rule; the goal is the first one.
type rests [api.MaxRules + 1][api.MaxRight]rest

// restsOf goes through all rules of g.
func restsOf(g api.Grammar) rests {
	var all rests
	for rule := items.Goal; rule < len(g.Rules); rule++ {
		right := items.Right(g, rule)
		for at := range right {
			begin, null := sets.FirstOf(g, right[at+1:])
			all[rule-items.Goal][at] = rest{sets.Only(begin...), null}
		}
	}
	return all
}
