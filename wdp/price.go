package wdp

import (
	"cmp"
	"math/bits"
	"slices"

	"saleroom/api"
	"saleroom/set"
)

// prices are prices of items, for options, told in parts (2 to the shift of
// them are 1). With them no assignment gets more than all prices and what each
// bidder has at most above them. What it gets less is what is lost: the price
// of an item that is left, what a bidder that is left could have, and by how
// much a bid gives less above its items' prices than its bidder could have.
type prices struct {
	up    *prices // those that there were ahead of these, if there were any
	shift int
	items [api.MaxItems]int64
	above [api.MaxBidders]int64
	at    state // the bidders and items that these are for
	total int64
}

const (
	// How long a price may be, told in parts: so the prices of 64 items, and
	// what 64 bidders have above them, can be added in an int64.
	mostBits  = 50
	mostShift = 20
)

// pricesOf are good prices for options, and an assignment that goes by them.
func pricesOf(open []option, up *prices) (*prices, found) {
	greatest := greatestOf(open)
	l := newLinear(open, greatest)
	l.solve()
	p := &prices{up: up, shift: shiftOf(open)}
	for item, worth := range l.exact(open, greatest, p.shift) {
		p.items[item] = min(max(worth, 0), greatest<<p.shift)
	}
	p.reckon(open)
	return p, l.rounded(open)
}

// of are some prices of items for other options, behind those that there were so far.
func (p *prices) of(open []option, items *prices) *prices {
	own := &prices{up: p, shift: items.shift, items: items.items}
	own.reckon(open)
	return own
}

// spread are prices for all options. The items that these aren't for cost what
// bids for them give above what these tell already.
func (p *prices) spread(all []option) *prices {
	shift := min(p.shift, shiftOf(all))
	wide := &prices{shift: shift}
	for item, price := range p.items {
		wide.items[item] = price >> (p.shift - shift)
	}
	for _, o := range all {
		lack := o.Price<<shift - wide.cost(o.Set) - p.above[o.Bidder]>>(p.shift-shift)
		for item := range set.Items(o.Set &^ p.at.items) {
			wide.items[item] += max(lack, 0)
			break
		}
	}
	wide.reckon(slices.Clone(all))
	return wide
}

// greatestOf is the greatest price of options, at least 1.
func greatestOf(open []option) int64 {
	greatest := int64(1)
	for _, o := range open {
		greatest = max(greatest, o.Price)
	}
	return greatest
}

// shiftOf is in how small parts prices for options can be told.
func shiftOf(open []option) int {
	return min(mostBits-bits.Len64(uint64(greatestOf(open))), mostShift)
}

// reckon tells what bidders have above the prices, what is lost by each option, and the total.
func (p *prices) reckon(open []option) {
	for k := range open {
		o := &open[k]
		o.loss = p.cost(o.Set) - o.Price<<p.shift
		p.above[o.Bidder] = max(p.above[o.Bidder], -o.loss)
	}
	for k := range open {
		open[k].loss += p.above[open[k].Bidder]
	}
	p.at = stateOf(open)
	p.total = p.whole(p.at)
}

// cost is the prices of a set's items, added up.
func (p *prices) cost(s uint64) int64 {
	var total int64
	for item := range set.Items(s) {
		total += p.items[item]
	}
	return total
}

// whole is the prices of a state's items, and what its bidders have above them.
func (p *prices) whole(at state) int64 {
	total := p.cost(at.items)
	for i := range set.Items(at.bidders) {
		total += p.above[i]
	}
	return total
}

// upper is how much a state can get at most, by all prices that there were so far.
func (p *prices) upper(at state) int64 {
	upper := p.whole(at) >> p.shift
	for up := p.up; up != nil; up = up.up {
		upper = min(upper, up.whole(at)>>up.shift)
	}
	return upper
}

// slack is how much may be lost at most, if need is got.
func (p *prices) slack(need int64) int64 { return p.total - need<<p.shift }

// knot is a bidder or an item, for which there's one of a few options, or else
// it is left. With a bidder all that have the same bids are left: if one of them
// has nothing, it may as well be the last one.
type knot struct {
	bidders uint64 // the bidder, and all that have the same bids; none: it's an item
	place   int
	loss    int64 // if it is left
	ways    int   // how many options there are, and one more, if it may be left
}

// before tells whether a knot is better to go on with: less ways, or more to lose.
func (k knot) before(other knot) bool {
	return cmp.Or(cmp.Compare(k.ways, other.ways), cmp.Compare(other.loss, k.loss)) < 0
}

// knot is, of a state's bidders and items by which something is lost, if they
// are left, the one that is best to go on with, and true; false: there's none.
func (p *prices) knot(open []option, at state, slack int64) (knot, bool) {
	var best knot
	offer := func(k knot) {
		if k.loss <= slack {
			k.ways++
		}
		if k.loss > 0 && (best.loss == 0 || k.before(best)) {
			best = k
		}
	}
	c := countsOf(open, at)
	for i := range set.Items(at.bidders) {
		if alike := c.alike[i]&at.bidders | 1<<i; first(alike, i) {
			offer(knot{alike, i, p.above[i] * int64(set.Count(alike)), c.bidders[i]})
		}
	}
	for i := range set.Items(at.items) {
		offer(knot{0, i, p.items[i], c.items[i]})
	}
	return best, best.loss > 0
}

// counts are how many options there are to be tried of each bidder and of each
// item, and the bidders that have the same bids as each.
type counts struct {
	bidders [api.MaxBidders]int
	items   [api.MaxItems]int
	alike   [api.MaxBidders]uint64
}

// countsOf are the counts of a state's options.
func countsOf(open []option, at state) counts {
	var c counts
	for _, o := range open {
		c.alike[o.Bidder] = o.alike
		if !at.first(o) {
			continue
		}
		c.bidders[o.Bidder]++
		for item := range set.Items(o.Set) {
			c.items[item]++
		}
	}
	return c
}

// options are a knot's options to be tried, those by which least is lost ahead.
func (k knot) options(open []option, at state) []option {
	var own []option
	for _, o := range open {
		if k.has(o) && at.first(o) {
			own = append(own, o)
		}
	}
	slices.SortStableFunc(own, func(a, b option) int { return cmp.Compare(a.loss, b.loss) })
	return own
}

// has tells whether an option is a knot's.
func (k knot) has(o option) bool {
	if k.bidders != 0 {
		return o.Bidder == k.place
	}
	return set.Has(o.Set, k.place)
}

// left is a state without a knot.
func (k knot) left(at state) state {
	if k.bidders != 0 {
		return state{at.bidders &^ k.bidders, at.items}
	}
	return state{at.bidders, at.items &^ (1 << k.place)}
}
