package wdp

import "slices"

// narrow looks for assignments by which no more is lost than may be, with
// prices that stay: each step costs little, but there may be very many.
type narrow struct {
	*prices
	unit  int64 // an assignment that gets more gets as much more as this, or more
	slack int64 // how much may be lost
	work  int   // how much may be looked at yet
	cut   bool  // that was too little
	taken []option
	best  []option
	found bool
	room  []option // of all steps that are under way, one behind the other
}

// look goes on from what is taken, with options that can be added, and with
// bidders and items that aren't decided yet.
func (n *narrow) look(open []option, at state, lost int64) {
	if n.work < 0 {
		n.cut = true
		return
	}
	n.work -= weight(open)
	if len(open) == 0 {
		n.end(lost + n.whole(at))
		return
	}
	k, ok := n.knot(open, at, n.slack-lost)
	if !ok {
		n.end(lost)
		return
	}
	for _, o := range k.options(open, at) {
		n.taken = append(n.taken, o)
		n.step(open, at.without(o.Pick), lost+o.loss)
		n.taken = n.taken[:len(n.taken)-1]
	}
	n.step(open, k.left(at), lost+k.loss)
}

// step goes on with fewer bidders and items.
func (n *narrow) step(open []option, at state, lost int64) {
	if lost > n.slack {
		return
	}
	n.work -= len(open)
	start := len(n.room)
	n.room = addWithin(n.room, open, at, n.slack-lost)
	n.look(n.room[start:], at, lost)
	n.room = n.room[:start]
}

// end keeps what is taken, if it is better than what was found.
func (n *narrow) end(lost int64) {
	if lost <= n.slack {
		n.best, n.found = slices.Clone(n.taken), true
		n.slack = lost - n.unit
	}
}
