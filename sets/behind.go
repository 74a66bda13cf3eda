package sets

import "undergrowth/api"

// behind is what comes right behind each name in what Start derives. Whether a
// name comes up there at all is kept beside: one can, and have nothing that
// ever comes right behind it.
type behind struct {
	reached []bool
	follow  []Kinds
}

// behindOf goes through the rules of the names that come up until none of them
// adds anything.
func behindOf(g api.Grammar) behind {
	b := behind{make([]bool, g.Names), make([]Kinds, g.Names)}
	begin := beginsOf(g)
	for more := b.add(g.Start, Only(g.Kinds)); more; {
		more = false
		for _, r := range g.Rules {
			if b.reached[r.Left] {
				more = b.addRule(begin, r) || more
			}
		}
	}
	return b
}

// addRule puts in what a rule tells of the names in it, and answers whether
// anything of it is new.
func (b behind) addRule(begin begins, r api.Rule) bool {
	isNew := false
	for i, s := range r.Right {
		if s < 0 {
			continue
		}
		k, null := begin.row(r.Right[i+1:])
		if null {
			k |= b.follow[r.Left]
		}
		isNew = b.add(s, k) || isNew
	}
	return isNew
}

// add puts in that a name comes up, with k behind it, and answers whether that
// is new.
func (b behind) add(name int, k Kinds) bool {
	k |= b.follow[name]
	isNew := k != b.follow[name] || !b.reached[name]
	b.follow[name], b.reached[name] = k, true
	return isNew
}
