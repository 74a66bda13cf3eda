package modes

import (
	"undergrowth/api"
	"undergrowth/dfa"
	"undergrowth/posit"
	"undergrowth/regex"
)

// modesOf is the modes of l, or the rule at fault and its error.
func modesOf(l api.Lexer) ([]mode, int, api.Errno) {
	if l.Modes < 1 || l.Modes > api.MaxModes || len(l.Rules) > api.MaxLex {
		return nil, -1, api.ErrLong
	}
	all := make([]mode, l.Modes)
	for i, r := range l.Rules {
		p, e := placesOf(r, l.Modes)
		if e != api.OK {
			return nil, i, e
		}
		all[r.Mode].add(r, p)
	}
	for i := range all {
		if e := dfa.Fits(all[i].places); e != api.OK {
			return nil, -1, e
		}
	}
	return all, -1, api.OK
}

// placesOf is those of a rule's pattern, or the rule's error.
func placesOf(r api.LexRule, modes int) (api.Posits, api.Errno) {
	if !isNumber(r.Mode, modes) || !isNumber(r.Next, modes) || !isKind(r.Kind) {
		return api.Posits{}, api.ErrName
	}
	x, _, e := regex.Parse(r.Pattern)
	if e != api.OK {
		return api.Posits{}, e
	}
	p, e := posit.Of(x)
	if e != api.OK {
		return api.Posits{}, e
	}
	if p.Null {
		return api.Posits{}, api.ErrEmpty
	}
	return p, api.OK
}

// isNumber tells whether i is one of n, from 0 on.
func isNumber(i, n int) bool { return i >= 0 && i < n }

// isKind tells whether a rule's tokens may be of that kind.
func isKind(kind int) bool { return kind == api.Skip || isNumber(kind, api.MaxKinds) }
