package prep

import (
	"saleroom/api"
	"saleroom/set"
)

// part is items that hang together by what bids have in common, and the first bidder that has one of them.
type part struct {
	items uint64
	first int
}

// together is the bidders that have a bid, rising, by the first one of those they belong to.
func together(all [][]api.Bid) map[int][]int {
	parts := partsOf(all)
	groups := map[int][]int{}
	for i, bs := range all {
		if len(bs) > 0 {
			first := firstOf(parts, part{itemsOf(bs), i})
			groups[first] = append(groups[first], i)
		}
	}
	return groups
}

// partsOf are the parts of all items of bids: no two of them have one in common.
func partsOf(all [][]api.Bid) []part {
	var parts []part
	for i, bs := range all {
		// Without items a bidder hangs together with nobody, and there may be many of these.
		if items := itemsOf(bs); items != 0 {
			parts = join(parts, part{items, i})
		}
	}
	return parts
}

// join is parts, whose memory it turns, with one more, and those that hang together with it, as one.
func join(parts []part, more part) []part {
	apart := parts[:0]
	for _, p := range parts {
		if set.Apart(p.items, more.items) {
			apart = append(apart, p)
		} else {
			more = part{more.items | p.items, min(more.first, p.first)}
		}
	}
	return append(apart, more)
}

// firstOf is the first bidder of the part that a bidder's items lie in; without items it is the bidder's own.
func firstOf(parts []part, own part) int {
	for _, p := range parts {
		if !set.Apart(p.items, own.items) {
			return p.first
		}
	}
	return own.first
}
