// Package tree: items in a row, found by their places, in a tree of nodes that are kept well filled.
package tree

import (
	"iter"
	"slices"
)

// room is how many items, or kids, a node has place for.
const room = 8

// How full a node is, is told as a part of its room: one that is fuller than full becomes two, one that is less full than low is put together with its neighbour.
const (
	full = 1.0
	low  = 0.5
)

// Tree is a row of items. The zero Tree has none.
type Tree[T any] struct {
	root node[T]
}

// node is a leaf, with items, or a branch, with kids, never both.
type node[T any] struct {
	items []T
	kids  []*node[T]
	count int // how many items there are in it and below it
}

// Len tells how many items there are.
func (t *Tree[T]) Len() int { return t.root.count }

// At tells the item at a place, if there is one.
func (t *Tree[T]) At(at int) (T, bool) {
	if at < 0 || at >= t.Len() {
		var none T
		return none, false
	}
	return *t.root.spot(at), true
}

// Set puts an item in the place of the one that is there; it tells whether there is one.
func (t *Tree[T]) Set(at int, item T) bool {
	if at < 0 || at >= t.Len() {
		return false
	}
	*t.root.spot(at) = item
	return true
}

// Insert puts an item ahead of the one at a place, or behind all; it tells whether there is such a place.
func (t *Tree[T]) Insert(at int, item T) bool {
	if at < 0 || at > t.Len() {
		return false
	}
	t.root.insert(at, item)
	if t.root.fill() > full {
		left := t.root
		right := left.split()
		t.root = node[T]{kids: []*node[T]{&left, right}}
		t.root.tally()
	}
	return true
}

// Delete takes the item at a place out; it tells whether there was one.
func (t *Tree[T]) Delete(at int) bool {
	if at < 0 || at >= t.Len() {
		return false
	}
	t.root.remove(at)
	if len(t.root.kids) == 1 {
		t.root = *t.root.kids[0]
	}
	return true
}

// All gives the items in their order.
func (t *Tree[T]) All() iter.Seq[T] {
	return func(yield func(T) bool) { t.root.each(yield) }
}

func (n *node[T]) leaf() bool { return len(n.kids) == 0 }

// fill tells how full a node is.
func (n *node[T]) fill() float64 {
	return float64(len(n.items)+len(n.kids)) / room
}

// tally counts the items anew.
func (n *node[T]) tally() {
	n.count = len(n.items)
	for _, k := range n.kids {
		n.count += k.count
	}
}

// find tells the kid in which a place is, and the place within it. The place behind all is the last kid's.
func (n *node[T]) find(at int) (int, int) {
	i := 0
	for i < len(n.kids)-1 && at >= n.kids[i].count {
		at -= n.kids[i].count
		i++
	}
	return i, at
}

// spot is where the item at a place stands.
func (n *node[T]) spot(at int) *T {
	for !n.leaf() {
		i, rest := n.find(at)
		n, at = n.kids[i], rest
	}
	return &n.items[at]
}

func (n *node[T]) insert(at int, item T) {
	n.count++
	if n.leaf() {
		n.items = slices.Insert(n.items, at, item)
		return
	}
	i, rest := n.find(at)
	n.kids[i].insert(rest, item)
	n.mend(i)
}

func (n *node[T]) remove(at int) {
	n.count--
	if n.leaf() {
		n.items = slices.Delete(n.items, at, at+1)
		return
	}
	i, rest := n.find(at)
	n.kids[i].remove(rest)
	n.mend(i)
}

// mend sees to it that kid i, which has changed, is as full as a node may be.
func (n *node[T]) mend(i int) {
	if n.kids[i].fill() < low {
		i = min(i, len(n.kids)-2)
		n.kids[i].join(n.kids[i+1])
		n.kids = slices.Delete(n.kids, i+1, i+2)
	}
	// Two that were too full to become one are halved here as well, so that both are full enough.
	if n.kids[i].fill() > full {
		n.kids = slices.Insert(n.kids, i+1, n.kids[i].split())
	}
}

// join takes over what the next node has.
func (n *node[T]) join(next *node[T]) {
	n.items = append(n.items, next.items...)
	n.kids = append(n.kids, next.kids...)
	n.tally()
}

// split gives the back half away, to a new node.
func (n *node[T]) split() *node[T] {
	i, k := len(n.items)/2, len(n.kids)/2
	next := &node[T]{items: slices.Clone(n.items[i:]), kids: slices.Clone(n.kids[k:])}
	n.items = slices.Delete(n.items, i, len(n.items))
	n.kids = slices.Delete(n.kids, k, len(n.kids))
	n.tally()
	next.tally()
	return next
}

// each hands the items over till no more are wanted; it tells whether more are.
func (n *node[T]) each(yield func(T) bool) bool {
	for _, item := range n.items {
		if !yield(item) {
			return false
		}
	}
	for _, k := range n.kids {
		if !k.each(yield) {
			return false
		}
	}
	return true
}
