package rope

import (
	"bytes"
	"testing"

	"undergrowth/api"
)

// leaves tells a tree's leaves in their order, and looks at what each node says of itself.
func leaves(t *testing.T, n *node) []*node {
	t.Helper()
	if n == nil {
		return nil
	}
	if n.isLeaf() {
		if n.right != nil || n.height != 1 || n.size != len(n.text) || n.size < 1 || n.size > most || n.feeds != bytes.Count([]byte(n.text), []byte{10}) {
			t.Fatalf("a leaf: %+v", n)
		}
		return []*node{n}
	}
	all := append(leaves(t, n.left), leaves(t, n.right)...)
	a, b := n.left, n.right
	if n.height != max(a.height, b.height)+1 || a.height > b.height+1 || b.height > a.height+1 || n.size != a.size+b.size || n.feeds != a.feeds+b.feeds || n.text != "" {
		t.Fatalf("an inner node of height %d over %d and %d", n.height, a.height, b.height)
	}
	return all
}

// dense tells whether all neighbours among a tree's leaves hold more together than a leaf may.
func dense(t *testing.T, n *node) {
	t.Helper()
	all := leaves(t, n)
	for i := 1; i < len(all); i++ {
		if all[i-1].size+all[i].size <= most {
			t.Fatalf("neighbours of %d and %d bytes", all[i-1].size, all[i].size)
		}
	}
}

// P201: trees are of leaves of at most 64 bytes, each inner node's height is one more than its
// higher kid's, and they are balanced and dense behind New and behind splices.
func TestShape(t *testing.T) {
	for n := range 1000 {
		dense(t, New(make([]byte, n)).root)
	}
	for seed := range uint32(20) {
		next := func(most int) int {
			seed = seed*1664525 + 1013904223
			return int(seed>>8) % most
		}
		r := New(make([]byte, next(5000)))
		for range 300 {
			s := api.Splice{At: next(r.Len() + 1), Del: next(70), Ins: make([]byte, next(70))}
			switch next(12) {
			case 0:
				s.Ins = make([]byte, next(5000))
			case 1:
				s.Del = next(5000)
			}
			r = r.Splice(s)
			dense(t, r.root)
		}
	}
}

// The trees of two ropes of very unlike heights are put together on either side.
func TestLinkOfUnlikeHeights(t *testing.T) {
	for _, a := range []int{0, 1, 64, 65, 300, 5000, 100000} {
		for _, b := range []int{0, 1, 64, 65, 300, 5000, 100000} {
			m := &maker{}
			n := m.join(m.grow(bytes.Repeat([]byte("a"), a)), m.grow(bytes.Repeat([]byte("b"), b)))
			dense(t, n)
			if got := n.pour(nil, 0, a+b); string(got) != string(bytes.Repeat([]byte("a"), a))+string(bytes.Repeat([]byte("b"), b)) {
				t.Errorf("%d, %d: %d bytes", a, b, len(got))
			}
		}
	}
}

// The leaves that are made are counted, and a small splice of a great text makes few of them.
func TestLeavesAreCounted(t *testing.T) {
	r := New(make([]byte, 1<<16))
	if got, want := r.maker.leaves.Load(), int64(len(leaves(t, r.root))); got != want {
		t.Errorf("%d leaves counted, %d made", got, want)
	}
	for at := 0; at < r.Len(); at += 997 {
		was := r.maker.leaves.Load()
		now := r.Splice(api.Splice{At: at, Del: 3, Ins: []byte("four")})
		if got := now.maker.leaves.Load() - was; got < 1 || got > 8 {
			t.Errorf("a splice at %d made %d leaves", at, got)
		}
	}
	if New(nil).maker == New(nil).maker {
		t.Error("two ropes that are not of one another have one maker")
	}
}
