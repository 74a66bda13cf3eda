package items

import (
	"math/bits"

	"undergrowth/api"
)

// Each rule, the goal too, has room for as many places of its point as the
// longest one needs.
const (
	places = api.MaxRight + 1
	words  = ((api.MaxRules+1)*places + 63) / 64
)

// set is a set of items of a grammar: those of the goal are the first bits,
// then come those of rule 0, and so on, so bits rise as items do.
type set [words]uint64

// add puts an item in.
func (s *set) add(it api.Item) {
	bit := (it.Rule-Goal)*places + it.At
	s[bit/64] |= 1 << (bit % 64)
}

// list tells the items of s, rising.
func (s set) list() []api.Item {
	var l []api.Item
	for i, w := range s {
		for ; w != 0; w &= w - 1 {
			bit := i*64 + bits.TrailingZeros64(w)
			l = append(l, api.Item{Rule: bit/places + Goal, At: bit % places})
		}
	}
	return l
}
