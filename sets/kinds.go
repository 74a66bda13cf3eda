package sets

import "math/bits"

// Kinds is a set of kinds: bit k is the kind k. MaxKinds and the end have room
// in it.
type Kinds uint64

// Only is the set of the kinds l alone.
func Only(l ...int) Kinds {
	var k Kinds
	for _, kind := range l {
		k |= 1 << kind
	}
	return k
}

// List tells the kinds of k, rising.
func (k Kinds) List() []int {
	var l []int
	for ; k != 0; k &= k - 1 {
		l = append(l, bits.TrailingZeros64(uint64(k)))
	}
	return l
}

// lists tells the kinds of each of l.
func lists(l []Kinds) [][]int {
	all := make([][]int, len(l))
	for i, k := range l {
		all[i] = k.List()
	}
	return all
}
