package posit

import (
	"undergrowth/api"
)

// places is a set of numbers of places, a bit each.
type places [(api.MaxPosits + 63) / 64]uint64

func (p *places) add(i int) { p[i>>6] |= 1 << (i & 63) }

func (p places) has(i int) bool { return p[i>>6]>>(i&63)&1 == 1 }

// with is the set of all that are in p or in q.
func (p places) with(q places) places {
	for i := range p {
		p[i] |= q[i]
	}
	return p
}

// list is the numbers, rising.
func (p places) list() []int {
	var l []int
	for i := range api.MaxPosits {
		if p.has(i) {
			l = append(l, i)
		}
	}
	return l
}
