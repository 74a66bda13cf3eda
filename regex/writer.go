package regex

import (
	"slices"
	"strings"

	"undergrowth/api"
)

// guarded are the bytes that need a `\` outside of `[` and `]`.
const guarded = marks + ".\\"

// guardedInClass are those that get one within.
const guardedInClass = "]\\^-"

// piece of what is to be written: a pattern, or a text if there is none.
type piece struct {
	re   *api.Re
	text string
}

// writer keeps what is still to be written in a list of its own, the next one
// last, and does not call itself: a pattern that is handed in may be deeper
// than calls can be.
type writer struct {
	out  []byte
	work []piece
}

func (w *writer) push(p piece) { w.work = append(w.work, p) }

// run writes till nothing is left to be written.
func (w *writer) run() string {
	for len(w.work) > 0 {
		last := len(w.work) - 1
		p := w.work[last]
		w.work = w.work[:last]
		if p.re == nil {
			w.out = append(w.out, p.text...)
		} else {
			w.write(p.re)
		}
	}
	return string(w.out)
}

// write puts a pattern's own bytes down, and its kids onto the work.
func (w *writer) write(x *api.Re) {
	switch op := kind(x); op {
	case api.RSet:
		w.out = append(w.out, showSet(x.Set)...)
	case api.RCat:
		w.pushKids(op, x.Kids, "")
	case api.RAlt:
		w.pushKids(op, x.Kids, "|")
	case api.RStar:
		w.pushRepeat(op, x.Kids[:1], "*")
	case api.RPlus:
		w.pushRepeat(op, x.Kids[:1], "+")
	case api.ROpt:
		w.pushRepeat(op, x.Kids[:1], "?")
	}
}

// pushRepeat brings a kid and the mark behind it onto the work.
func (w *writer) pushRepeat(op int, kids []api.Re, mark string) {
	w.push(piece{text: mark})
	w.pushKids(op, kids, "")
}

// pushKids brings the kids of a pattern of that kind onto the work, the last
// one first, with a text between.
func (w *writer) pushKids(op int, kids []api.Re, between string) {
	for i := range slices.Backward(kids) {
		kid := &kids[i]
		if bracketed(op, kind(kid)) {
			w.push(piece{text: ")"})
			w.push(piece{re: kid})
			w.push(piece{text: "("})
		} else {
			w.push(piece{re: kid})
		}
		if i > 0 && between != "" {
			w.push(piece{text: between})
		}
	}
}

// kind is a pattern's Op; one that there is not, or that lacks its kids, is as
// RNone. (Parse tells none of these.)
func kind(x *api.Re) int {
	switch {
	case x.Op == api.RSet:
		return api.RSet
	case x.Op >= api.RCat && x.Op <= api.ROpt && len(x.Kids) > 0:
		return x.Op
	}
	return api.RNone
}

// bracketed tells whether a kid of one kind needs brackets below another kind.
func bracketed(above, kid int) bool {
	switch kid {
	case api.RAlt:
		return true
	case api.RCat, api.RNone:
		return above != api.RAlt
	}
	return false
}

// showSet writes a set: one byte and `.` need no `[` and `]`.
func showSet(set [4]uint64) string {
	list := runs(set)
	if len(list) == 1 && list[0].first == list[0].last {
		return guard(list[0].first, guarded)
	}
	if set == dot() {
		return "."
	}
	var b strings.Builder
	b.WriteByte('[')
	for _, r := range list {
		b.WriteString(showRun(r))
	}
	b.WriteByte(']')
	return b.String()
}

// showRun writes a run within `[` and `]`.
func showRun(r run) string {
	first, last := guard(r.first, guardedInClass), guard(r.last, guardedInClass)
	switch r.last - r.first {
	case 0:
		return first
	case 1:
		return first + last
	}
	return first + "-" + last
}

// guard is c, with a `\` ahead if it is one of those that need it.
func guard(c byte, those string) string {
	if strings.IndexByte(those, c) >= 0 {
		return string([]byte{'\\', c})
	}
	return string([]byte{c})
}
