package posit

import (
	"undergrowth/api"
)

// part is what a pattern within another one is to what stands around it.
type part struct {
	null        bool
	first, last places
}

// builder makes the places of a pattern, from the left.
type builder struct {
	survey survey
	sets   [][4]uint64
	follow []places
}

// posits is what is told of a pattern that was built.
func (b *builder) posits(all part) api.Posits {
	p := api.Posits{Sets: b.sets, Null: all.null, First: all.first.list(), Last: all.last.list()}
	for _, f := range b.follow {
		p.Follow = append(p.Follow, f.list())
	}
	return p
}

// part builds a pattern. One without places takes nothing, whatever it is made
// of; it may be of some lists many times over, so it is not gone through.
func (b *builder) part(x *api.Re) part {
	if b.survey.sizeOf(x).places == 0 {
		return part{null: true}
	}
	switch x.Op {
	case api.RSet:
		return b.place(x.Set)
	case api.RCat:
		return b.cat(x.Kids)
	case api.RAlt:
		return b.alt(x.Kids)
	}
	return b.repeated(x.Op, &x.Kids[0])
}

// place makes one of a set.
func (b *builder) place(set [4]uint64) part {
	var me places
	me.add(len(b.sets))
	b.sets = append(b.sets, set)
	b.follow = append(b.follow, places{})
	return part{first: me, last: me}
}

// cat builds patterns that stand one behind the other.
func (b *builder) cat(l []api.Re) part {
	all := part{null: true}
	for i := range l {
		kid := b.part(&l[i])
		b.link(all.last, kid.first)
		if all.null {
			all.first = all.first.with(kid.first)
		}
		if kid.null {
			all.last = all.last.with(kid.last)
		} else {
			all.last = kid.last
		}
		all.null = all.null && kid.null
	}
	return all
}

// alt builds patterns of which one is taken.
func (b *builder) alt(l []api.Re) part {
	var all part
	for i := range l {
		kid := b.part(&l[i])
		all.null = all.null || kid.null
		all.first = all.first.with(kid.first)
		all.last = all.last.with(kid.last)
	}
	return all
}

// repeated builds RStar, RPlus and ROpt of a kid.
func (b *builder) repeated(op int, kid *api.Re) part {
	all := b.part(kid)
	if op != api.ROpt {
		b.link(all.last, all.first)
	}
	if op != api.RPlus {
		all.null = true
	}
	return all
}

// link lets all of first follow each of last.
func (b *builder) link(last, first places) {
	for i := range b.follow {
		if last.has(i) {
			b.follow[i] = b.follow[i].with(first)
		}
	}
}
