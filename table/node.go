package table

import "cmp"

// The sides of a node: the keys below its own, and those above it.
const (
	left = iota
	right
)

// How many times as many keys as the other one a side may have, and how many
// times as many as the outer one the inner side of what is lifted: with these
// two numbers one lift, or two, always mend what one key more or less has done.
const (
	mostOfSide  = 3
	mostOfInner = 2
)

// node is a key with its value, between those below and those above it; nil is none.
// A node is never turned once it stands in a table, so that clones, and what goes on,
// may have it in common.
type node[K cmp.Ordered, V any] struct {
	key   K
	value V
	count int // of the keys, those of both sides too
	sides [2]*node[K, V]
}

func (n *node[K, V]) len() int {
	if n == nil {
		return 0
	}
	return n.count
}

// find is the node of a key.
func (n *node[K, V]) find(k K) *node[K, V] {
	for n != nil && cmp.Compare(k, n.key) != 0 {
		n = n.sides[n.side(k)]
	}
	return n
}

// side is where a key is that isn't the node's own.
func (n *node[K, V]) side(k K) int {
	if cmp.Less(k, n.key) {
		return left
	}
	return right
}

// end is the last node of a side.
func (n *node[K, V]) end(side int) *node[K, V] {
	for n != nil && n.sides[side] != nil {
		n = n.sides[side]
	}
	return n
}

// below is the greatest node below a key.
func (n *node[K, V]) below(k K) *node[K, V] {
	var best *node[K, V]
	for n != nil {
		if cmp.Less(n.key, k) {
			best, n = n, n.sides[right]
		} else {
			n = n.sides[left]
		}
	}
	return best
}

// put is the same with a value by a key.
func (n *node[K, V]) put(k K, v V) *node[K, V] {
	if n == nil {
		return &node[K, V]{key: k, value: v, count: 1}
	}
	if cmp.Compare(k, n.key) == 0 {
		return n.holding(n.key, v)
	}
	side := n.side(k)
	return n.with(side, n.sides[side].put(k, v)).even()
}

// drop is the same without a key.
func (n *node[K, V]) drop(k K) *node[K, V] {
	if n == nil {
		return nil
	}
	if cmp.Compare(k, n.key) == 0 {
		return n.beneath()
	}
	side := n.side(k)
	return n.with(side, n.sides[side].drop(k)).even()
}

// beneath is the same without its own key.
func (n *node[K, V]) beneath() *node[K, V] {
	next := n.sides[right].end(left)
	if next == nil {
		return n.sides[left]
	}
	return n.holding(next.key, next.value).with(right, n.sides[right].drop(next.key)).even()
}

// holding is the same with another key and value of its own.
func (n *node[K, V]) holding(k K, v V) *node[K, V] {
	other := *n
	other.key, other.value = k, v
	return &other
}

// with is the same with another side.
func (n *node[K, V]) with(side int, sub *node[K, V]) *node[K, V] {
	other := *n
	other.count += sub.len() - n.sides[side].len()
	other.sides[side] = sub
	return &other
}

// even is the same with neither side too great for the other one, where one key more or less has made it so.
func (n *node[K, V]) even() *node[K, V] {
	for side, sub := range n.sides {
		rest := n.sides[1-side].len()
		if sub.len()+rest < 2 || sub.len() <= mostOfSide*rest {
			continue
		}
		if sub.sides[1-side].len() >= mostOfInner*sub.sides[side].len() {
			n = n.with(side, sub.lift(1-side))
		}
		return n.lift(side)
	}
	return n
}

// lift is the same with the node of a side at the top.
func (n *node[K, V]) lift(side int) *node[K, V] {
	sub := n.sides[side]
	return sub.with(1-side, n.with(side, sub.sides[1-side]))
}

// each tells all keys, from a side's end on; false: no more is asked for.
func (n *node[K, V]) each(side int, yield func(K, V) bool) bool {
	return n == nil || n.sides[side].each(side, yield) && yield(n.key, n.value) && n.sides[1-side].each(side, yield)
}

// from tells the keys that aren't below k, rising; false: no more is asked for.
func (n *node[K, V]) from(k K, yield func(K, V) bool) bool {
	if n == nil {
		return true
	}
	if cmp.Less(n.key, k) {
		return n.sides[right].from(k, yield)
	}
	return n.sides[left].from(k, yield) && yield(n.key, n.value) && n.sides[right].each(left, yield)
}
