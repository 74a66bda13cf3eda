package items

import "undergrowth/api"

// Goal is the number of a rule that stands in no grammar: it comes to Start
// alone.
const Goal = -1

// Right is what a rule of g, or the goal, comes to.
func Right(g api.Grammar, rule int) []int {
	if rule == Goal {
		return []int{g.Start}
	}
	return g.Rules[rule].Right
}

// isItem tells whether it is an item of g.
func isItem(g api.Grammar, it api.Item) bool {
	return it.Rule >= Goal && it.Rule < len(g.Rules) &&
		it.At >= 0 && it.At <= len(Right(g, it.Rule))
}

// behind is the symbol behind the point of an item of g, if its point is not
// at the end.
func behind(g api.Grammar, it api.Item) (int, bool) {
	l := Right(g, it.Rule)
	if it.At == len(l) {
		return 0, false
	}
	return l[it.At], true
}

// closed is s and, as long as there is a name behind a point, the items at the
// beginning of its rules.
func closed(g api.Grammar, s set) set {
	var seen [api.MaxNames]bool
	for todo := s.list(); len(todo) > 0; {
		it := todo[len(todo)-1]
		todo = todo[:len(todo)-1]
		name, ok := behind(g, it)
		if !ok || name < 0 || seen[name] {
			continue
		}
		seen[name] = true
		for i, r := range g.Rules {
			if r.Left == name {
				begin := api.Item{Rule: i}
				s.add(begin)
				todo = append(todo, begin)
			}
		}
	}
	return s
}
