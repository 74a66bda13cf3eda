package dfa

import (
	"undergrowth/api"
	"undergrowth/regex"
)

// classes are bytes that no place tells apart: most patterns have few of them,
// and all bytes of one lead to the same states.
type classes struct {
	first []byte   // the first byte of each
	of    [256]int // of each byte: its class
}

func (c *classes) len() int { return len(c.first) }

// classesOf sorts the bytes by the places of all patterns together.
func classesOf(l []api.Posits) *classes {
	const all = ^uint64(0)
	groups := [][4]uint64{{all, all, all, all}}
	for _, p := range l {
		for _, s := range p.Sets {
			groups = divide(groups, s)
		}
	}
	c := &classes{}
	for _, g := range groups {
		c.add(g)
	}
	return c
}

// divide splits each group into the bytes of s and the others.
func divide(groups [][4]uint64, s [4]uint64) [][4]uint64 {
	for i := range len(groups) {
		var in, out [4]uint64
		for k, bits := range groups[i] {
			in[k], out[k] = bits&s[k], bits&^s[k]
		}
		if in != [4]uint64{} && out != [4]uint64{} {
			groups[i] = in
			groups = append(groups, out)
		}
	}
	return groups
}

// add makes a group the next class.
func (c *classes) add(group [4]uint64) {
	n, found := c.len(), false
	for i := range c.of {
		if !regex.Has(group, byte(i)) {
			continue
		}
		c.of[i] = n
		if !found {
			c.first, found = append(c.first, byte(i)), true
		}
	}
}
