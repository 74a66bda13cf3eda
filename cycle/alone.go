package cycle

import (
	"slices"

	"undergrowth/api"
	"undergrowth/sets"
)

// names is a set of names of a grammar, of which there are at most 40: name n
// is the bit n.
type names uint64

func only(name int) names { return 1 << name }

func (n names) has(name int) bool { return n&only(name) != 0 }

// oneStep tells of each name which names stand alone when one of its rules is
// taken and what is beside them derives nothing.
func oneStep(g api.Grammar) []names {
	null := sets.Nullable(g)
	to := make([]names, g.Names)
	for _, r := range g.Rules {
		to[r.Left] |= alone(null, r.Right)
	}
	return to
}

// alone is the names of a row that stay alone when all that is beside them
// derives nothing.
func alone(null []bool, l []int) names {
	var can names
	for i, s := range l {
		if s >= 0 && vanish(null, l[:i]) && vanish(null, l[i+1:]) {
			can |= only(s)
		}
	}
	return can
}

// vanish tells whether the symbols l derive nothing.
func vanish(null []bool, l []int) bool {
	stays := func(s int) bool { return s < 0 || !null[s] }
	return !slices.ContainsFunc(l, stays)
}

// anySteps makes of what each name comes to in one step what it comes to in
// one or more: round by round, the names of the way between may be one more.
func anySteps(to []names) {
	for via := range to {
		for from := range to {
			if to[from].has(via) {
				to[from] |= to[via]
			}
		}
	}
}
