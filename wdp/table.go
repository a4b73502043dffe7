package wdp

import (
	"math"

	"saleroom/api"
	"saleroom/set"
)

// table tells of all sets of few items, bidder by bidder from the last one on,
// how much can be got for them. It costs as much for hard bids as for easy ones.
type table struct {
	items []int
	own   [][]option // bidder by bidder; their sets are by the places of the items
	most  [][]int64  // from each bidder on, by set
}

// mostNumbers is how many numbers a table may keep.
const mostNumbers = 1 << 23

// costOf is how much a table costs: how many numbers are written for it.
func costOf(open []option) int {
	at := stateOf(open)
	items := set.Count(at.items)
	if items > 20 || set.Count(at.bidders)<<items > mostNumbers {
		return math.MaxInt
	}
	cost := set.Count(at.bidders) << items
	for _, o := range open {
		cost += 1 << (items - set.Count(o.Set))
	}
	return cost
}

// newTable is the table of options.
func newTable(open []option) *table {
	t := &table{items: set.List(stateOf(open).items), own: make([][]option, api.MaxBidders)}
	for _, o := range open {
		o.Set = t.place(o.Set)
		t.own[o.Bidder] = append(t.own[o.Bidder], o)
	}
	t.most = make([][]int64, api.MaxBidders+1)
	t.most[api.MaxBidders] = make([]int64, 1<<len(t.items))
	for i := api.MaxBidders - 1; i >= 0; i-- {
		t.most[i] = t.turn(t.own[i], t.most[i+1])
	}
	return t
}

// turn is how much can be got with one more bidder.
func (t *table) turn(own []option, most []int64) []int64 {
	if len(own) == 0 {
		return most
	}
	more := make([]int64, len(most))
	copy(more, most)
	full := set.Full(len(t.items))
	for _, o := range own {
		for left := range set.Subsets(full &^ o.Set) {
			more[left|o.Set] = max(more[left|o.Set], most[left]+o.Price)
		}
	}
	return more
}

// place is a set by the places of the items.
func (t *table) place(s uint64) uint64 {
	var at uint64
	for k, item := range t.items {
		if set.Has(s, item) {
			at |= 1 << k
		}
	}
	return at
}

// from is how much the bidders from one on can get of free items.
func (t *table) from(bidder int, free uint64) int64 { return t.most[bidder][t.place(free)] }

// best is a best assignment of all.
func (t *table) best() found {
	var f found
	free := set.Full(len(t.items))
	for i, own := range t.own {
		for _, o := range own {
			if set.Within(o.Set, free) && t.most[i][free] == t.most[i+1][free&^o.Set]+o.Price {
				free &^= o.Set
				f = f.with(foundOf(t.back(o)))
				break
			}
		}
	}
	return f
}

// back is an option as it was handed in.
func (t *table) back(o option) option {
	var s uint64
	for k := range set.Items(o.Set) {
		s |= 1 << t.items[k]
	}
	o.Set = s
	return o
}
