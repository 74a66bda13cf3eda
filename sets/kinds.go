package sets

import "math/bits"

// kinds is a set of kinds: bit k is the kind k. MaxKinds and the end have room
// in it.
type kinds uint64

// only is the set of k alone.
func only(k int) kinds { return 1 << k }

// list tells the kinds of k, rising.
func (k kinds) list() []int {
	var l []int
	for ; k != 0; k &= k - 1 {
		l = append(l, bits.TrailingZeros64(uint64(k)))
	}
	return l
}

// lists tells the kinds of each of l.
func lists(l []kinds) [][]int {
	all := make([][]int, len(l))
	for i, k := range l {
		all[i] = k.list()
	}
	return all
}
