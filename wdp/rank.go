package wdp

import (
	"math"
	"slices"

	"saleroom/api"
	"saleroom/heap"
	"saleroom/set"
)

// ranking is all assignments of clean bids, the best ones ahead. Those that
// begin alike are one thing in a heap, by how much they can get at most, till
// they come to the top: so most of them are never told apart.
type ranking struct {
	lists [][]api.Bid
	alike []uint64 // bidder by bidder those that have the same bids
	all   []option
	heap  *heap.Heap[*begun]
	table *table // if there's one, it tells all; else the search does

	search *search
	prices *prices
	some   found   // an assignment that is there at once
	losses []int64 // of all options, rising
	near   int     // by how many of them the search goes now
	goal   int64   // an assignment that gets as much has none of the other ones
}

// begun is all assignments that begin alike, with what the first bidders have.
type begun struct {
	up     *begun // without the last one of these
	count  int    // how many they are
	choice int    // the place of the last one's bid among its own; behind all of them: it has none
	free   uint64
	total  int64   // what they get
	most   int64   // what they and the others get at most
	sure   bool    // that they get it
	rest   found   // if the search found that: what the others have then
	tried  bool    // the search has looked at it, but not to the end
	below  []int64 // by choice: how much those get at most in which the next bidder has that
}

const (
	// A table that costs no more is made at once.
	smallTable = 1 << 14
	// One that costs no more is made if new prices were asked for more often than this.
	greatTable = 1 << 26
	hardTurns  = 3
)

// newRanking is all assignments of clean bids.
func newRanking(lists [][]api.Bid) *ranking {
	r := &ranking{lists: lists, alike: alikeOf(lists), heap: heap.New((*begun).before)}
	r.all = optionsOf(lists, r.alike)
	if costOf(r.all) <= max(smallTable, tableLooks*weight(r.all)) {
		r.table = newTable(r.all)
	} else {
		r.begin()
	}
	root := &begun{free: set.Full(api.MaxItems)}
	r.bound(root, math.MaxInt64)
	r.heap.Put(root)
	return r
}

// begin makes the search ready.
func (r *ranking) begin() {
	r.search = newSearch(r.all)
	r.prices, r.some = pricesOf(r.all, nil)
	for _, o := range r.all {
		r.losses = append(r.losses, o.loss)
	}
	slices.Sort(r.losses)
	r.near, r.goal = set.Count(r.prices.at.bidders)+set.Count(r.prices.at.items), math.MaxInt64
	r.widen()
}

// widen lets the search go by more options; at first not by more than it takes
// to get as much as what is there at once.
func (r *ranking) widen() {
	var goal int64
	if r.near *= 2; r.near < len(r.losses) {
		goal = max((r.prices.total-r.losses[r.near])>>r.prices.shift, 0)
	}
	if r.goal > r.some.total {
		goal = max(goal, r.some.total)
	}
	r.goal = goal
}

// left is the bidders that aren't among the first ones, and what is free for them.
func (b *begun) left() state { return state{^uint64(0) << b.count, b.free} }

// bound tells how much assignments get at most; never more than what is handed in.
func (r *ranking) bound(b *begun, most int64) {
	switch {
	case b.count == len(r.lists):
		b.most, b.sure = b.total, true
	case r.table != nil:
		b.most, b.sure = b.total+r.table.from(b.count, b.free), true
	default:
		b.most = min(most, b.total+r.search.upper(b.left(), r.prices))
	}
}

// before tells whether b stands ahead: by the total, then bidder by bidder.
func (b *begun) before(other *begun) bool {
	if b.most != other.most {
		return b.most > other.most
	}
	for b.count > other.count {
		b = b.up
	}
	for other.count > b.count {
		other = other.up
	}
	for b.up != other.up {
		b, other = b.up, other.up
	}
	return b.choice < other.choice
}

// next is the next assignment, and its total, and true; false: there's none.
func (r *ranking) next() ([]api.Pick, int64, bool) {
	for b := range r.heap.Drain() {
		switch {
		case !b.sure:
			r.settle(b)
			b.tell()
			r.heap.Put(b)
		case b.count == len(r.lists):
			return r.picks(b), b.total, true
		default:
			r.split(b)
		}
	}
	return nil, 0, false
}

// settle makes sure how much b gets, or that it's less than that.
func (r *ranking) settle(b *begun) {
	if r.table == nil && r.search.turns > hardTurns && costOf(r.all) <= greatTable {
		r.table = newTable(r.all)
	}
	if r.table != nil {
		r.bound(b, b.most)
	} else {
		r.seek(b)
	}
}

// seek asks the search how much b gets. At first it asks no more than whether
// that's as much as what is next to b in the heap: that costs less.
func (r *ranking) seek(b *begun) {
	if upper := b.total + r.search.upper(b.left(), r.prices); upper < b.most {
		b.most = upper
		return
	}
	for b.most < r.goal {
		r.widen()
	}
	goal := r.goal
	if next, ok := r.heap.Top(); ok && !b.tried {
		goal = max(next.most, goal)
	}
	rest, ok := r.search.best(within(r.all, b.left(), math.MaxInt64), goal-b.total, r.prices)
	if ok {
		b.most, b.sure, b.rest = b.total+rest.total, true, rest
	} else {
		b.most, b.tried = goal-1, true
	}
}

// split tells assignments apart by what the next bidder has. Those get as much
// for sure in which it has something else of the same price, that the others leave.
func (r *ranking) split(b *begun) {
	own := r.lists[b.count]
	if r.alike[b.count]>>b.count > 1 {
		b.below = make([]int64, len(own)+1)
	}
	has, _ := b.rest.has(b.count)
	var others uint64
	for _, p := range b.rest.picks {
		if p.Bidder > b.count {
			others |= p.Set
		}
	}
	for k, bid := range own {
		if set.Within(bid.Set, b.free) {
			r.add(b, k, bid, bid.Price == has.Price && set.Apart(bid.Set, others))
		}
	}
	r.add(b, len(own), api.Bid{}, has.Price == 0)
}

// add puts those of assignments in which the next bidder has a bid, or none;
// alike tells whether they get as much for sure.
func (r *ranking) add(up *begun, choice int, bid api.Bid, alike bool) {
	b := &begun{up: up, count: up.count + 1, choice: choice, free: up.free &^ bid.Set, total: up.total + bid.Price}
	if r.bound(b, r.turned(b)); alike && !b.sure {
		b.most, b.sure, b.rest = up.most, true, up.rest
	}
	b.tell()
	r.heap.Put(b)
}

// turned is how much b gets at most by what is known of those in which a
// bidder ahead that has the same bids has what the last one has in b: with what
// these two have turned round, what is in b is in there, too.
func (r *ranking) turned(b *begun) int64 {
	most := b.up.most
	for up := b.up; up.up != nil; up = up.up {
		if below := up.up.below; below != nil && set.Has(r.alike[b.count-1], up.count-1) {
			most = min(most, below[b.choice])
		}
	}
	return most
}

// tell lets be known how much b gets at most.
func (b *begun) tell() {
	if b.up != nil && b.up.below != nil {
		b.up.below[b.choice] = b.most
	}
}

// picks are what all bidders have.
func (r *ranking) picks(b *begun) []api.Pick {
	if b.up == nil {
		return nil
	}
	picks := r.picks(b.up)
	if own := r.lists[b.count-1]; b.choice < len(own) {
		picks = append(picks, pickOf(b.count-1, own[b.choice]))
	}
	return picks
}

// most is the greatest total.
func (r *ranking) most() int64 {
	b, _ := r.heap.Pop()
	for !b.sure {
		r.settle(b)
	}
	return b.most
}
