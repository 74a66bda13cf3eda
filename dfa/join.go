package dfa

import (
	"math/bits"

	"undergrowth/api"
	"undergrowth/regex"
)

// joined is some patterns as one, with all their places together. A pattern's
// places begin with a word, so that a word is of one pattern alone.
type joined struct {
	null   int        // the first pattern that takes nothing, too
	first  set        // what can take the first byte
	follow []set      // of each place: what can take the byte behind it
	last   []uint64   // of each word: what can take the last byte
	rule   []int      // of each word: whose places these are
	takes  [][]uint64 // of each class of bytes, of each word: what takes it
	pool   *pool
}

// join joins patterns.
func join(l []api.Posits, c *classes) *joined {
	words := 0
	for _, p := range l {
		words += wordsOf(p)
	}
	j := &joined{null: none, follow: make([]set, 64*words), last: make([]uint64, words), pool: newPool(words)}
	for range c.len() {
		j.takes = append(j.takes, make([]uint64, words))
	}
	for i, p := range l {
		j.add(i, p, c)
	}
	j.joinFirst(l)
	return j
}

// wordsOf is how many words the places of p fill.
func wordsOf(p api.Posits) int { return (len(p.Sets) + 63) / 64 }

// add joins the pattern number i; its words are the next ones.
func (j *joined) add(i int, p api.Posits, c *classes) {
	base := len(j.rule)
	for range wordsOf(p) {
		j.rule = append(j.rule, i)
	}
	if p.Null && j.null == none {
		j.null = i
	}
	j.gather(base, p, p.Last)
	for _, w := range j.pool.take() {
		j.last[w.at] = w.bits
	}
	for k, s := range p.Sets {
		j.place(wordOf(base, k), s, c)
		if k < len(p.Follow) {
			j.gather(base, p, p.Follow[k])
			j.follow[64*base+k] = j.pool.take()
		}
	}
}

// wordOf is the place number i of a pattern whose words begin at base.
func wordOf(base, i int) word { return word{base + i/64, 1 << (i % 64)} }

// place notes which bytes a place takes.
func (j *joined) place(w word, s [4]uint64, c *classes) {
	for k, b := range c.first {
		if regex.Has(s, b) {
			j.takes[k][w.at] |= w.bits
		}
	}
}

// joinFirst gathers what can take the first byte.
func (j *joined) joinFirst(l []api.Posits) {
	base := 0
	for _, p := range l {
		j.gather(base, p, p.First)
		base += wordsOf(p)
	}
	j.first = j.pool.take()
}

// gather puts places of p in the pool. Numbers of places that there are not are
// passed over, as posit.Takes does it.
func (j *joined) gather(base int, p api.Posits, l []int) {
	for _, i := range l {
		if i >= 0 && i < len(p.Sets) {
			j.pool.add(wordOf(base, i))
		}
	}
}

// behind is what can take the byte behind those that s took.
func (j *joined) behind(s set) set {
	for _, w := range s {
		for rest := w.bits; rest != 0; rest &= rest - 1 {
			for _, f := range j.follow[64*w.at+bits.TrailingZeros64(rest)] {
				j.pool.add(f)
			}
		}
	}
	return j.pool.take()
}

// taking appends to room those of s that take a class of bytes.
func (j *joined) taking(s set, class int, room set) set {
	for _, w := range s {
		if both := w.bits & j.takes[class][w.at]; both != 0 {
			room = append(room, word{w.at, both})
		}
	}
	return room
}

// accepts is the first pattern whose last byte s can have taken.
func (j *joined) accepts(s set) int {
	for _, w := range s {
		if w.bits&j.last[w.at] != 0 {
			return j.rule[w.at]
		}
	}
	return none
}
