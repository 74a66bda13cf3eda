package dfa

import (
	"slices"
)

// word is 64 places, those from 64*at on, a bit each.
type word struct {
	at   int
	bits uint64
}

// set is places: words of at least one place each, rising. A set of few places
// is short, however many there are in all.
type set []word

// key appends to room what tells s from all other sets.
func (s set) key(room []byte) []byte {
	for _, w := range s {
		for shift := 0; shift < 64; shift += 8 {
			room = append(room, byte(w.at>>shift), byte(w.bits>>shift))
		}
	}
	return room
}

// pool gathers places till they are taken out as a set.
type pool struct {
	bits []uint64 // of each word
	used []int    // the words with places, in the order in which they came
}

func newPool(words int) *pool { return &pool{bits: make([]uint64, words)} }

// add puts places in; there is at least one.
func (p *pool) add(w word) {
	if p.bits[w.at] == 0 {
		p.used = append(p.used, w.at)
	}
	p.bits[w.at] |= w.bits
}

// take is what was gathered; the pool is empty behind it.
func (p *pool) take() set {
	slices.Sort(p.used)
	s := make(set, 0, len(p.used))
	for _, at := range p.used {
		s = append(s, word{at, p.bits[at]})
		p.bits[at] = 0
	}
	p.used = p.used[:0]
	return s
}
