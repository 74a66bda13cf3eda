package posit

import (
	"undergrowth/api"
	"undergrowth/regex"
)

// walk goes through bytes on all ways at the same time.
type walk struct {
	posits api.Posits
	steps  int   // bytes that were gone through
	now    []int // the places that can have taken the last one, each once
	spare  []int // room for the next ones
	taken  []int // of each place: the last step at which it took a byte
}

// step goes on by a byte, and tells whether any place takes it.
func (w *walk) step(c byte) bool {
	was := w.now
	w.now, w.spare = w.spare[:0], was
	w.steps++
	if w.steps == 1 {
		w.enter(w.posits.First, c)
	}
	for _, i := range was {
		if i < len(w.posits.Follow) {
			w.enter(w.posits.Follow[i], c)
		}
	}
	return len(w.now) > 0
}

// enter goes on to those of l that take the byte.
func (w *walk) enter(l []int, c byte) {
	for _, i := range l {
		if w.isPlace(i) && !w.isAt(i) && regex.Has(w.posits.Sets[i], c) {
			w.taken[i] = w.steps
			w.now = append(w.now, i)
		}
	}
}

// isPlace tells whether there is such a place.
func (w *walk) isPlace(i int) bool { return i >= 0 && i < len(w.taken) }

// isAt tells whether the place can have taken the last byte.
func (w *walk) isAt(i int) bool { return w.isPlace(i) && w.taken[i] == w.steps }
