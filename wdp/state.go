package wdp

import (
	"math/bits"
	"slices"

	"saleroom/api"
	"saleroom/set"
)

// state is some bidders, and items that are free for them.
type state struct{ bidders, items uint64 }

// stateOf is the bidders and the items of options.
func stateOf(open []option) state {
	var at state
	for _, o := range open {
		at = at.with(o.Pick)
	}
	return at
}

// with is a state and a bid's bidder and items.
func (s state) with(p api.Pick) state { return s.join(state{1 << p.Bidder, p.Set}) }

// without is a state without a bid's bidder and items.
func (s state) without(p api.Pick) state {
	return state{s.bidders &^ (1 << p.Bidder), s.items &^ p.Set}
}

// join is two states as one.
func (s state) join(other state) state {
	return state{s.bidders | other.bidders, s.items | other.items}
}

// apart tells whether two states have neither a bidder nor an item in common.
func (s state) apart(other state) bool {
	return set.Apart(s.bidders, other.bidders) && set.Apart(s.items, other.items)
}

// may tells whether a bid can be taken.
func (s state) may(p api.Pick) bool {
	return set.Has(s.bidders, p.Bidder) && set.Within(p.Set, s.items)
}

// option is a bid that may be taken, what is lost by it (see prices), and the
// bidders that have the same bids: of these only the first one is tried.
type option struct {
	api.Pick
	loss  int64
	alike uint64
}

// optionsOf are all bids, bidder by bidder.
func optionsOf(lists [][]api.Bid, alike []uint64) []option {
	var all []option
	for i, bs := range lists {
		for _, b := range bs {
			all = append(all, option{Pick: pickOf(i, b), alike: alike[i]})
		}
	}
	return all
}

// alikeOf are, bidder by bidder, those that have the same bids.
func alikeOf(lists [][]api.Bid) []uint64 {
	alike := make([]uint64, len(lists))
	for i, own := range lists {
		for k, bs := range lists {
			if slices.Equal(bs, own) {
				alike[i] |= 1 << k
			}
		}
	}
	return alike
}

// first tells whether an option's bidder is the first one of a state's bidders that have the same bids.
func (s state) first(o option) bool { return first(o.alike&s.bidders, o.Bidder) }

// first tells whether a bidder is the first one of some.
func first(bidders uint64, bidder int) bool { return bits.TrailingZeros64(bidders) == bidder }

// pickOf is a bidder's bid, taken.
func pickOf(bidder int, b api.Bid) api.Pick {
	return api.Pick{Bidder: bidder, Set: b.Set, Price: b.Price}
}

// within are the options of a state by which no more than so much is lost.
func within(open []option, at state, slack int64) []option { return addWithin(nil, open, at, slack) }

// addWithin are options, and these behind them.
func addWithin(own, open []option, at state, slack int64) []option {
	for _, o := range open {
		if o.loss <= slack && at.may(o.Pick) {
			own = append(own, o)
		}
	}
	return own
}

// weight is what it takes to look at options, item by item.
func weight(open []option) int {
	n := 0
	for _, o := range open {
		n += 1 + set.Count(o.Set)
	}
	return n
}

// partsOf are the bidders and items of options, as far as they hang together.
func partsOf(open []option) []state {
	var parts []state
	for _, o := range open {
		own := state{}.with(o.Pick)
		apart := parts[:0]
		for _, p := range parts {
			if p.apart(own) {
				apart = append(apart, p)
			} else {
				own = own.join(p)
			}
		}
		parts = append(apart, own)
	}
	return parts
}

// found is an assignment, in any order, and its total.
type found struct {
	picks []api.Pick
	total int64
}

// foundOf is options, taken.
func foundOf(taken ...option) found {
	var f found
	for _, o := range taken {
		f.picks, f.total = append(f.picks, o.Pick), f.total+o.Price
	}
	return f
}

// with is two assignments beside each other.
func (f found) with(other found) found {
	return found{slices.Concat(f.picks, other.picks), f.total + other.total}
}

// has is what a bidder has in an assignment, and true; false: nothing.
func (f found) has(bidder int) (api.Pick, bool) {
	for _, p := range f.picks {
		if p.Bidder == bidder {
			return p, true
		}
	}
	return api.Pick{}, false
}

// tops are the bids of each bidder's greatest price, and true, if they can be taken all.
func tops(open []option) (found, bool) {
	var best [api.MaxBidders]option
	var at state
	for _, o := range open {
		if !set.Has(at.bidders, o.Bidder) || o.Price > best[o.Bidder].Price {
			best[o.Bidder], at.bidders = o, at.bidders|1<<o.Bidder
		}
	}
	var f found
	for i := range set.Items(at.bidders) {
		if !set.Apart(at.items, best[i].Set) {
			return found{}, false
		}
		at.items |= best[i].Set
		f.picks, f.total = append(f.picks, best[i].Pick), f.total+best[i].Price
	}
	return f, true
}

// taking takes options one by one, as they stand, if they can be added.
func taking(order []option) found {
	var f found
	var at state
	for _, o := range order {
		if own := (state{}.with(o.Pick)); own.apart(at) {
			f.picks, f.total = append(f.picks, o.Pick), f.total+o.Price
			at = at.join(own)
		}
	}
	return f
}

// assignments is about how many assignments there are of options, told by how
// many pairs of some of them can be taken both.
func assignments(open []option) float64 {
	own := some(open)
	pairs, both := 1.0, 1.0
	for i, a := range own {
		for _, b := range own[i+1:] {
			pairs++
			if (state{}.with(a.Pick)).apart(state{}.with(b.Pick)) {
				both++
			}
		}
	}
	sum, next, can := 1.0, 1.0, 1.0
	for k := range api.MaxBidders {
		next *= float64(len(open)) * can / float64(k+1)
		can *= both / pairs
		sum += next
	}
	return sum
}

// some are a few options from all over. They are at no steady steps: options
// often stand in rows that are alike, all of which such steps could meet at
// the same item.
func some(open []option) []option {
	const few = 64
	if len(open) <= few {
		return open
	}
	var own []option
	at := uint64(1)
	for range few {
		at = at*6364136223846793005 + 1442695040888963407
		own = append(own, open[at>>33%uint64(len(open))])
	}
	return own
}
