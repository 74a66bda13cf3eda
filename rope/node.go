package rope

import (
	"strings"
	"sync/atomic"
)

// most is how many bytes a leaf holds at most.
const most = 64

// node of a tree: a leaf of 1 to most bytes, or two kids whose heights differ
// by 1 at most. The empty tree is nil. A node never turns, so that trees share
// them; two leaves that stand side by side hold more than most bytes together,
// so that many small edits do not leave many small leaves.
type node struct {
	left, right         *node
	text                string
	size, feeds, height int
}

func (n *node) len() int {
	if n == nil {
		return 0
	}
	return n.size
}

func (n *node) isLeaf() bool { return n.left == nil }

// first is the leaf at the beginning.
func (n *node) first() *node {
	for !n.isLeaf() {
		n = n.left
	}
	return n
}

// last is the leaf at the end.
func (n *node) last() *node {
	for !n.isLeaf() {
		n = n.right
	}
	return n
}

// pour puts the bytes from from up to to behind those of out.
func (n *node) pour(out []byte, from, to int) []byte {
	if n == nil || from >= to || to <= 0 || from >= n.size {
		return out
	}
	if n.isLeaf() {
		return append(out, n.text[max(from, 0):min(to, n.size)]...)
	}
	out = n.left.pour(out, from, to)
	return n.right.pour(out, from-n.left.size, to-n.left.size)
}

// pair is an inner node of two trees of about one height.
func pair(a, b *node) *node {
	return &node{
		left:   a,
		right:  b,
		size:   a.size + b.size,
		feeds:  a.feeds + b.feeds,
		height: max(a.height, b.height) + 1,
	}
}

// link is the tree of a and then b, whatever their heights.
func link(a, b *node) *node {
	switch {
	case a == nil:
		return b
	case b == nil:
		return a
	case a.height > b.height+1:
		return balance(a.left, link(a.right, b))
	case b.height > a.height+1:
		return balance(link(a, b.left), b.right)
	}
	return pair(a, b)
}

// balance is the tree of a and then b, whose heights differ by 2 at most.
func balance(a, b *node) *node {
	switch {
	case a.height > b.height+1:
		if a.left.height >= a.right.height {
			return pair(a.left, pair(a.right, b))
		}
		return pair(pair(a.left, a.right.left), pair(a.right.right, b))
	case b.height > a.height+1:
		if b.right.height >= b.left.height {
			return pair(pair(a, b.left), b.right)
		}
		return pair(pair(a, b.left.left), pair(b.left.right, b.right))
	}
	return pair(a, b)
}

// withoutFirst is the tree without its first leaf.
func (n *node) withoutFirst() *node {
	if n.isLeaf() {
		return nil
	}
	return link(n.left.withoutFirst(), n.right)
}

// withLast is the tree with another last leaf.
func (n *node) withLast(leaf *node) *node {
	if n.isLeaf() {
		return leaf
	}
	return pair(n.left, n.right.withLast(leaf))
}

// maker makes leaves and counts them. A rope and those that are spliced of it
// have one maker; many may splice them at the same time, so the count is atomic.
type maker struct {
	leaves atomic.Int64
}

// leaf is one of a text of 1 to most bytes.
func (m *maker) leaf(text string) *node {
	m.leaves.Add(1)
	return &node{text: text, size: len(text), feeds: strings.Count(text, "\n"), height: 1}
}

// grow is the tree of b. It halves, so that leaves have room for what is put
// in later on.
func (m *maker) grow(b []byte) *node {
	switch {
	case len(b) == 0:
		return nil
	case len(b) <= most:
		return m.leaf(string(b))
	}
	half := len(b) / 2
	return pair(m.grow(b[:half]), m.grow(b[half:]))
}

// join is the tree of a and then b; the leaves that meet become one if they
// fit into one.
func (m *maker) join(a, b *node) *node {
	if a == nil || b == nil {
		return link(a, b)
	}
	x, y := a.last(), b.first()
	if x.size+y.size <= most {
		a = a.withLast(m.leaf(x.text + y.text))
		b = b.withoutFirst()
	}
	return link(a, b)
}

// ahead is the tree of the first at bytes.
func (m *maker) ahead(n *node, at int) *node {
	switch {
	case at <= 0:
		return nil
	case at >= n.len():
		return n
	case n.isLeaf():
		return m.leaf(n.text[:at])
	case at <= n.left.size:
		return m.ahead(n.left, at)
	}
	return m.join(n.left, m.ahead(n.right, at-n.left.size))
}

// behind is the tree of the bytes from at on.
func (m *maker) behind(n *node, at int) *node {
	switch {
	case at <= 0:
		return n
	case at >= n.len():
		return nil
	case n.isLeaf():
		return m.leaf(n.text[at:])
	case at >= n.left.size:
		return m.behind(n.right, at-n.left.size)
	}
	return m.join(m.behind(n.left, at), n.right)
}
