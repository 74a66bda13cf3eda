package sets

import "undergrowth/api"

// begins is how that begins which each name derives.
type begins struct {
	null  []bool
	first []Kinds
}

// beginsOf goes through the rules of g until none of them adds anything.
func beginsOf(g api.Grammar) begins {
	b := begins{make([]bool, g.Names), make([]Kinds, g.Names)}
	for more := true; more; {
		more = false
		for _, r := range g.Rules {
			k, null := b.row(r.Right)
			more = b.add(r.Left, k, null) || more
		}
	}
	return b
}

// add puts in what one rule of a name tells, and answers whether it is new.
func (b begins) add(name int, k Kinds, null bool) bool {
	k |= b.first[name]
	null = null || b.null[name]
	isNew := k != b.first[name] || null != b.null[name]
	b.first[name], b.null[name] = k, null
	return isNew
}

// row tells how that begins which the symbols l derive, and whether they derive
// nothing, too, as far as b knows.
func (b begins) row(l []int) (Kinds, bool) {
	var k Kinds
	for _, s := range l {
		if s < 0 {
			return k | Only(-1-s), false
		}
		k |= b.first[s]
		if !b.null[s] {
			return k, false
		}
	}
	return k, true
}
