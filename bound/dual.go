package bound

import (
	"saleroom/api"
	"saleroom/set"
)

// mostTurns is how many turns count.
const mostTurns = 50

// market is bids of bidders, the items that are free, and prices of these.
type market struct {
	bidders [][]api.Bid
	free    uint64
	prices  [api.MaxItems]int64
}

// Dual is a bound by prices of items.
func Dual(all [][]api.Bid, from int, free uint64, turns int) int64 {
	m := market{bidders: rest(all, from), free: free}
	step, least := m.greatest(), m.bound()
	for range min(max(turns, 0), mostTurns) {
		m.turn(max(step, 1))
		step /= 2
		least = min(least, m.bound())
	}
	return least
}

// greatest is the greatest price of any bidder.
func (m *market) greatest() int64 {
	var price int64
	for _, bs := range m.bidders {
		price = max(price, greatest(bs, m.free))
	}
	return price
}

// bound is the bound with the prices of now.
func (m *market) bound() int64 {
	total := m.cost(m.free)
	for _, bs := range m.bidders {
		gain, _ := m.gain(bs)
		total = add(total, gain)
	}
	return total
}

// turn lets the prices of what is wanted more than once rise, and of what nobody wants fall.
func (m *market) turn(step int64) {
	wanted := m.wanted()
	for item := range set.Items(m.free) {
		switch n := wanted[item]; {
		case n > 1:
			m.prices[item] += step
		case n == 0:
			m.prices[item] = max(m.prices[item]-step, 0)
		}
	}
}

// wanted is how many bidders' best bids have each item.
func (m *market) wanted() [api.MaxItems]int {
	var times [api.MaxItems]int
	for _, bs := range m.bidders {
		_, s := m.gain(bs)
		for item := range set.Items(s) {
			times[item]++
		}
	}
	return times
}

// gain is the most that a bidder's bids give above the prices of their items, and
// the set of the first one that gives that; if none gives anything, 0 and the empty set.
func (m *market) gain(bs []api.Bid) (int64, uint64) {
	var gain int64
	var s uint64
	for b := range counting(bs, m.free) {
		if above := b.Price - m.cost(b.Set); above > gain {
			gain, s = above, b.Set
		}
	}
	return gain, s
}

// cost is the prices of a set's items, added up.
func (m *market) cost(s uint64) int64 {
	var total int64
	for item := range set.Items(s) {
		total += m.prices[item]
	}
	return total
}
