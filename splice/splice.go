// Package splice is layer 1: edits of lists of bytes.
package splice

import (
	"slices"

	"undergrowth/api"
)

// Clamp cuts a splice to a text of n bytes.
func Clamp(n int, s api.Splice) api.Splice {
	at, del := reach(n, s)
	return api.Splice{At: at, Del: del, Ins: fresh(s.Ins)}
}

// Do is b behind the splice.
func Do(b []byte, s api.Splice) []byte {
	at, del := reach(len(b), s)
	return slices.Concat(b[:at], s.Ins, b[at+del:])
}

// Map tells where a place of a text of n bytes is behind the splice.
func Map(n int, s api.Splice, at int) int {
	from, del := reach(n, s)
	place := cut(at, n)
	switch {
	case place <= from:
		return place
	case place < from+del:
		return from
	default:
		return place - del + len(s.Ins)
	}
}

// Back is the splice that makes b of Do's answer again.
func Back(b []byte, s api.Splice) api.Splice {
	at, del := reach(len(b), s)
	return api.Splice{At: at, Del: len(s.Ins), Ins: fresh(b[at : at+del])}
}

// reach is where a splice of a text of n bytes begins, and how many bytes it
// takes away. Del is held against what is left, not added to At: the sum of
// two given numbers might not fit.
func reach(n int, s api.Splice) (at, del int) {
	at = cut(s.At, n)
	return at, cut(s.Del, n-at)
}

// cut brings x into 0 to top; a top below 0 counts as 0.
func cut(x, top int) int {
	return max(0, min(x, top))
}

// fresh copies into memory of its own: slices.Clone of an empty list would
// still point into the old one.
func fresh(b []byte) []byte {
	return append([]byte(nil), b...)
}
