package regex

import (
	"strings"

	"undergrowth/api"
)

// marks are the bytes that stand for themselves only behind a `\`, beside `.`
// and `\`, which begin atoms of their own.
const marks = "|*+?()[]"

// reader goes through a pattern once, from the left. Where one of its methods
// tells an error, at is the place of the byte at fault.
type reader struct {
	text string
	at   int
	open int // brackets that are not closed yet
}

// sees tells whether c comes next.
func (r *reader) sees(c byte) bool {
	return r.at < len(r.text) && r.text[r.at] == c
}

// alternative reads sequences with `|` between.
func (r *reader) alternative() (api.Re, api.Errno) {
	var parts []api.Re
	for {
		x, err := r.sequence()
		if err != api.OK {
			return api.Re{}, err
		}
		parts = append(parts, x)
		if !r.sees('|') {
			return gather(api.RAlt, parts), api.OK
		}
		r.at++
	}
}

// sequence reads repeated parts up to what ends a sequence.
func (r *reader) sequence() (api.Re, api.Errno) {
	var parts []api.Re
	for r.at < len(r.text) && !r.sees('|') && !r.sees(')') {
		x, err := r.repeated()
		if err != api.OK {
			return api.Re{}, err
		}
		parts = append(parts, x)
	}
	return gather(api.RCat, parts), api.OK
}

// gather is the pattern of some parts; one of them stands alone.
func gather(op int, parts []api.Re) api.Re {
	switch len(parts) {
	case 0:
		return api.Re{Op: api.RNone}
	case 1:
		return parts[0]
	}
	return api.Re{Op: op, Kids: parts}
}

// repeated reads an atom and the repeats behind it.
func (r *reader) repeated() (api.Re, api.Errno) {
	x, err := r.atom()
	if err != api.OK {
		return api.Re{}, err
	}
	for r.at < len(r.text) {
		op := repeat(r.text[r.at])
		if op == api.RNone {
			break
		}
		x = api.Re{Op: op, Kids: []api.Re{x}}
		r.at++
	}
	return x, api.OK
}

// repeat is the kind of pattern that c makes of what is ahead; RNone: none.
func repeat(c byte) int {
	switch c {
	case '*':
		return api.RStar
	case '+':
		return api.RPlus
	case '?':
		return api.ROpt
	}
	return api.RNone
}

// atom reads one; there is a byte to read.
func (r *reader) atom() (api.Re, api.Errno) {
	switch c := r.text[r.at]; {
	case c == '(':
		return r.group()
	case c == '[':
		return r.class()
	case c == '.':
		r.at++
		return api.Re{Op: api.RSet, Set: dot()}, api.OK
	case strings.IndexByte(marks, c) >= 0:
		return api.Re{}, api.ErrSyntax
	}
	c, err := r.literal()
	if err != api.OK {
		return api.Re{}, err
	}
	return api.Re{Op: api.RSet, Set: single(c)}, api.OK
}

// group reads an alternative in brackets.
func (r *reader) group() (api.Re, api.Errno) {
	if r.open == api.MaxDeep {
		return api.Re{}, api.ErrDeep
	}
	r.open++
	r.at++
	x, err := r.alternative()
	if err != api.OK {
		return api.Re{}, err
	}
	if !r.sees(')') {
		return api.Re{}, api.ErrSyntax
	}
	r.open--
	r.at++
	return x, api.OK
}

// literal reads a byte, or `\` and the byte that it stands ahead of.
func (r *reader) literal() (byte, api.Errno) {
	if r.sees('\\') {
		r.at++
	}
	if r.at == len(r.text) {
		return 0, api.ErrSyntax
	}
	c := r.text[r.at]
	r.at++
	return c, api.OK
}

// class reads a set's items between `[` and `]`.
func (r *reader) class() (api.Re, api.Errno) {
	r.at++
	other := r.sees('^')
	if other {
		r.at++
	}
	if r.sees(']') {
		return api.Re{}, api.ErrSyntax
	}
	x := api.Re{Op: api.RSet}
	for !r.sees(']') {
		item, err := r.item()
		if err != api.OK {
			return api.Re{}, err
		}
		put(&x.Set, item)
	}
	r.at++
	if other {
		x.Set = others(x.Set)
	}
	return x, api.OK
}

// item reads a byte, or two with `-` between; what comes next is no `]`.
func (r *reader) item() (run, api.Errno) {
	first, err := r.literal()
	if err != api.OK {
		return run{}, err
	}
	if !r.seesBetween() {
		return run{first, first}, api.OK
	}
	r.at++
	second := r.at
	last, err := r.literal()
	if err != api.OK {
		return run{}, err
	}
	if last < first {
		r.at = second
		return run{}, api.ErrSyntax
	}
	return run{first, last}, api.OK
}

// seesBetween tells whether a `-` that stands between two bytes comes next.
func (r *reader) seesBetween() bool {
	return r.sees('-') && r.at+1 < len(r.text) && r.text[r.at+1] != ']'
}
