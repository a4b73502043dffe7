// Tests of layer 16 with many bids, held against ways to reckon that go by what these bids are alike in.
package wdp_test

import (
	"math/rand/v2"
	"slices"
	"testing"

	"saleroom/api"
	"saleroom/wdp"
)

// someItems is a set of so many of the first items, at random.
func someItems(rnd *rand.Rand, items, count int) uint64 {
	var s uint64
	for _, item := range rnd.Perm(items)[:count] {
		s |= 1 << item
	}
	return s
}

// manyBids are bids of bidders, each made by a call.
func manyBids(bidders, each int, one func() api.Bid) [][]api.Bid {
	all := make([][]api.Bid, bidders)
	for i := range all {
		for range each {
			all[i] = append(all[i], one())
		}
	}
	return all
}

// shares is what the bidders from each on can get at most of each set of the first items.
func shares(lists [][]api.Bid, items int) [][]int32 {
	most := make([][]int32, len(lists)+1)
	most[len(lists)] = make([]int32, 1<<items)
	for i := len(lists) - 1; i >= 0; i-- {
		most[i] = slices.Clone(most[i+1])
		for _, b := range lists[i] {
			for s := range most[i] {
				if free := uint64(s); free&b.Set == b.Set {
					most[i][s] = max(most[i][s], most[i+1][free&^b.Set]+int32(b.Price))
				}
			}
		}
	}
	return most
}

// sharedOf is the first best assignment, by what can be got of each set.
func sharedOf(all [][]api.Bid, items int) given {
	lists := cleanOf(all)
	most := shares(lists, items)
	free := uint64(1)<<items - 1
	g := given{total: int64(most[0][free])}
	for i, bs := range lists {
		for _, b := range bs {
			if b.Set&free == b.Set && most[i][free] == most[i+1][free&^b.Set]+int32(b.Price) {
				g.picks, free = append(g.picks, api.Pick{Bidder: i, Set: b.Set, Price: b.Price}), free&^b.Set
				break
			}
		}
	}
	return g
}

// P16.1, P16.2: 64 bidders, each with many bids for sets of few items, of prices that are far apart or near.
func TestFewItems(t *testing.T) {
	rnd := rand.New(rand.NewPCG(11, 16))
	for n := range 12 {
		items, prices := 4+n/2, []int64{1, 2, 3, 1000, 1 << 20}[n%5]
		all := manyBids(64, 64, func() api.Bid {
			return api.Bid{Set: someItems(rnd, items, 1+rnd.IntN(4)), Price: rnd.Int64N(prices) + prices/2}
		})
		first := sharedOf(all, items)
		checkGiven(t, "Solve", all, solved(all), first)
		checkSum(t, "Total", all, wdp.Total(all, every), first.total)
		checkSum(t, "Total", all, wdp.Total(all, 7), sharedOf(all, items).total-first.total+int64(shares(cleanOf(all), items)[0][7]))
		i := first.picks[0].Bidder
		checkSum(t, "Without", all, wdp.Without(all, i), sharedOf(lacking(all, i), items).total)
	}
}

// P16.1, P16.2: so many bids of few items that only a table of their sets tells what is best.
func TestCrowded(t *testing.T) {
	if testing.Short() {
		t.Skip("takes some seconds")
	}
	rnd := rand.New(rand.NewPCG(21, 16))
	all := manyBids(40, 40, func() api.Bid { return api.Bid{Set: someItems(rnd, 16, 3), Price: 900 + rnd.Int64N(100)} })
	soon(t, "Solve", func() { checkGiven(t, "Solve", all, solved(all), sharedOf(all, 16)) })
}

// P16.1, P16.2: bids that are hard: no item has a price by which it's plain who gets it.
func TestHard(t *testing.T) {
	if testing.Short() {
		t.Skip("takes some seconds")
	}
	rnd := rand.New(rand.NewPCG(12, 16))
	for n := range 4 {
		items, few := 18+n, int64([]int{3, 1000}[n%2])
		all := manyBids(9, 30, func() api.Bid {
			return api.Bid{Set: someItems(rnd, items, 2+rnd.IntN(3)), Price: 10 + rnd.Int64N(few)}
		})
		first := sharedOf(all, items)
		checkGiven(t, "Solve", all, solved(all), first)
		checkGiven(t, "the first one of Ranked", all, gather(all, 1)[0], first)
		i := first.picks[1].Bidder
		checkSum(t, "Without", all, wdp.Without(all, i), sharedOf(lacking(all, i), items).total)
	}
}

// sharedWithin is sharedOf, of some bidders, from a place on, and some items, from a place on.
func sharedWithin(lists [][]api.Bid, from, shift, items int, free uint64) given {
	var low [][]api.Bid
	for _, bs := range lists {
		var own []api.Bid
		for _, b := range bs {
			if b.Set&free == b.Set {
				own = append(own, api.Bid{Set: b.Set >> shift, Price: b.Price})
			}
		}
		low = append(low, own)
	}
	g := sharedOf(low, items)
	for i := range g.picks {
		g.picks[i].Bidder += from
		g.picks[i].Set <<= shift
	}
	return g
}

// linked are hard bids in four parts, of prices of some kind, and a bidder behind
// all others with a bid for an item of each, and what is best of the parts alone
// within free items.
func linked(seed uint64, kind int, times int64) (all [][]api.Bid, link uint64, best func(free uint64) given) {
	const parts, items = 4, 15
	rnd := rand.New(rand.NewPCG(seed, uint64(kind)))
	one := func() (int, int64) {
		count := 2 + rnd.IntN(3)
		price := int64(count)*20 + rnd.Int64N(5)
		switch kind {
		case 1:
			price = 100 + rnd.Int64N(4)
		case 2:
			price = 500 + rnd.Int64N(500)
		case 3:
			return 3, 50 + rnd.Int64N(3)
		}
		return count, price
	}
	for k := range parts {
		all = append(all, manyBids(7, 16, func() api.Bid {
			count, price := one()
			return api.Bid{Set: someItems(rnd, items, count) << (items * k), Price: times * price}
		})...)
		link |= 1 << (items*k + rnd.IntN(items))
	}
	return all, link, func(free uint64) given {
		var g given
		for k := range parts {
			part := sharedWithin(all[7*k:7*k+7], 7*k, items*k, items, free)
			g.picks, g.total = append(g.picks, part.picks...), g.total+part.total
		}
		return g
	}
}

// P16.1, P16.2: hard bids in some parts, and one that makes one of them: a bid
// of price 0 is taken where it is free, one of price 1 where all others, of
// prices that are ten times as far from each other, lose nothing by it.
func TestLinked(t *testing.T) {
	if testing.Short() {
		t.Skip("takes some seconds")
	}
	for _, r := range []struct {
		seed uint64
		kind int
	}{{1, 2}, {4, 0}, {4, 1}, {22, 3}, {44, 1}, {47, 0}, {48, 1}} {
		all, link, best := linked(r.seed, r.kind, 1)
		want, free := best(every), every
		for _, p := range want.picks {
			free &^= p.Set
		}
		if link&free == link {
			want.picks = append(want.picks, api.Pick{Bidder: len(all), Set: link})
		}
		all = append(all, []api.Bid{{Set: link}})
		soon(t, "Solve", func() { checkGiven(t, "Solve", all, solved(all), want) })

		all, link, best = linked(r.seed, r.kind, 10)
		want = best(every)
		if less := best(^link); less.total == want.total {
			want = given{append(less.picks, api.Pick{Bidder: len(all), Set: link, Price: 1}), less.total + 1}
		}
		all = append(all, []api.Bid{{Set: link, Price: 1}})
		soon(t, "Solve", func() { checkGiven(t, "Solve", all, solved(all), want) })
	}
}

// P16.1, P16.2: bids of price 0 alone: the first bid that is free goes to each.
func TestNoughts(t *testing.T) {
	rnd := rand.New(rand.NewPCG(13, 16))
	for range 5 {
		all := manyBids(64, 50, func() api.Bid { return api.Bid{Set: someItems(rnd, 64, 1+rnd.IntN(5))} })
		var want given
		free := every
		for i, bs := range cleanOf(all) {
			for _, b := range bs {
				if b.Set&free == b.Set {
					want.picks, free = append(want.picks, api.Pick{Bidder: i, Set: b.Set}), free&^b.Set
					break
				}
			}
		}
		checkGiven(t, "Solve", all, solved(all), want)
	}
}

// matched is how many of some bidders can have an item each that they bid for,
// of free ones: each looks for one, and lets those that have it look again.
func matched(all [][]api.Bid, free uint64) int {
	owner := map[uint64]int{}
	var look func(i int, seen map[uint64]bool) bool
	look = func(i int, seen map[uint64]bool) bool {
		for _, b := range all[i] {
			if b.Set&free == 0 || seen[b.Set] {
				continue
			}
			seen[b.Set] = true
			if other, ok := owner[b.Set]; !ok || look(other, seen) {
				owner[b.Set] = i
				return true
			}
		}
		return false
	}
	n := 0
	for i := range all {
		if look(i, map[uint64]bool{}) {
			n++
		}
	}
	return n
}

// P16.1, P16.2: 64 bidders of one item each, all at one price: very many assignments are as good as the first one.
func TestAlike(t *testing.T) {
	rnd := rand.New(rand.NewPCG(14, 16))
	for _, each := range []int{1, 2, 3, 8, 64} {
		all := manyBids(64, each, func() api.Bid { return api.Bid{Set: 1 << rnd.IntN(64), Price: 7} })
		lists, free := cleanOf(all), every
		want := given{total: 7 * int64(matched(lists, free))}
		for i, bs := range lists {
			for _, b := range bs {
				if b.Set&free != 0 && 7*int64(len(want.picks)+1+matched(lists[i+1:], free&^b.Set)) == want.total {
					want.picks, free = append(want.picks, api.Pick{Bidder: i, Set: b.Set, Price: 7}), free&^b.Set
					break
				}
			}
		}
		checkGiven(t, "Solve", all, solved(all), want)
	}
}

// spanned is the greatest total of bids for rows of neighbouring items, each bidder's only one, within free items.
func spanned(all [][]api.Bid, free uint64) int64 {
	var most [65]int64 // of the items below each
	for end := 1; end <= 64; end++ {
		most[end] = most[end-1]
		for _, bs := range all {
			for _, b := range bs {
				start := 0
				for b.Set>>start&1 == 0 {
					start++
				}
				if b.Set&free == b.Set && b.Set>>(end-1) == 1 {
					most[end] = max(most[end], most[start]+b.Price)
				}
			}
		}
	}
	return most[64]
}

// P16.1, P16.2: bids that hang together like a chain.
func TestChain(t *testing.T) {
	rnd := rand.New(rand.NewPCG(15, 16))
	for n := range 6 {
		most := []int64{2, 5, 1000}[n%3]
		all := manyBids(64, 1, func() api.Bid {
			long := 1 + rnd.IntN(6)
			return api.Bid{Set: (1<<long - 1) << rnd.IntN(65-long), Price: int64(long) + rnd.Int64N(most)}
		})
		free := every
		want := given{total: spanned(all, free)}
		var sum int64
		for i, bs := range all {
			if b := bs[0]; b.Set&free == b.Set && sum+b.Price+spanned(all[i+1:], free&^b.Set) == want.total {
				want.picks, free, sum = append(want.picks, api.Pick{Bidder: i, Set: b.Set, Price: b.Price}), free&^b.Set, sum+b.Price
			}
		}
		checkGiven(t, "Solve", all, solved(all), want)
		var pays []given
		for _, p := range want.picks {
			pays = append(pays, given{[]api.Pick{p}, spanned(lacking(all, p.Bidder), every) - (want.total - p.Price)})
		}
		checkAll(t, "Pays", all, paid(all), pays)
	}
}

// planted are bids of which so many are worth their items' prices, and share
// all items among them; all others are worth less: so these alone are best.
func planted(rnd *rand.Rand, each int, most int64) ([][]api.Bid, given) {
	var prices [64]int64
	for i := range prices {
		prices[i] = 2 + rnd.Int64N(most)
	}
	cost := func(s uint64) int64 {
		var sum int64
		for i, price := range prices {
			sum += price * int64(s>>i&1)
		}
		return sum
	}
	all := manyBids(64, each, func() api.Bid {
		s := someItems(rnd, 64, 1+rnd.IntN(12))
		return api.Bid{Set: s, Price: cost(s) - 1 - rnd.Int64N(cost(s)/2)}
	})
	var want given
	order, at := rnd.Perm(64), 0
	for i := range all {
		n := min(rnd.IntN(5), 64-at)
		var s uint64
		for _, item := range order[at : at+n] {
			s |= 1 << item
		}
		if at += n; i == 63 {
			for _, item := range order[at:] {
				s |= 1 << item
			}
		}
		if s != 0 {
			all[i] = append(all[i], api.Bid{Set: s, Price: cost(s)})
			want.picks = append(want.picks, api.Pick{Bidder: i, Set: s, Price: cost(s)})
			want.total += cost(s)
		}
	}
	return all, want
}

// P16.1, P16.2: 64 bidders with very many bids, of which few are best.
func TestPlanted(t *testing.T) {
	if testing.Short() {
		t.Skip("takes some seconds")
	}
	rnd := rand.New(rand.NewPCG(16, 16))
	for _, each := range []int{1, 10, 100, 300} {
		for _, most := range []int64{5, 1000, 1 << 35} {
			all, want := planted(rnd, each, most)
			soon(t, "Solve", func() {
				checkGiven(t, "Solve", all, solved(all), want)
				checkSum(t, "Total", all, wdp.Total(all, every), want.total)
			})
		}
	}
}

// P16.1, P16.2: sets so great that hardly two of them can be had at once.
func TestGreatSets(t *testing.T) {
	rnd := rand.New(rand.NewPCG(17, 16))
	for _, count := range []int{30, 20} {
		all := manyBids(64, 60, func() api.Bid { return api.Bid{Set: someItems(rnd, 64, count), Price: 500 + rnd.Int64N(1000)} })
		first := firstOf(all, every)
		checkGiven(t, "Solve", all, solved(all), first)
		checkGiven(t, "the first one of Ranked", all, gather(all, 1)[0], first)
	}
	all := manyBids(2, 4000, func() api.Bid { return api.Bid{Set: rnd.Uint64(), Price: rnd.Int64N(1000)} })
	all[1] = append(all[1], api.Bid{Set: ^all[0][3999].Set, Price: 2000})
	all[0][3999].Price = 1999
	soon(t, "Solve", func() {
		if ps, n := wdp.Solve(all); len(ps) != 2 || n != 3999 {
			t.Errorf("%v, %d", ps, n)
		}
	})
}

// P16.1: groups that have no item in common: what is best in each is best in all.
func TestGroups(t *testing.T) {
	rnd := rand.New(rand.NewPCG(18, 16))
	for range 10 {
		all, want := make([][]api.Bid, 64), given{}
		place := rnd.Perm(64)
		for g := range 16 {
			members := place[4*g : 4*g+4]
			slices.Sort(members)
			part := make([][]api.Bid, 64)
			for _, i := range members {
				for range 6 {
					part[i] = append(part[i], api.Bid{Set: (1 + rnd.Uint64N(15)) << (4 * g), Price: rnd.Int64N(5)})
				}
				all[i] = part[i]
			}
			first := firstOf(part, every)
			want.picks, want.total = append(want.picks, first.picks...), want.total+first.total
		}
		slices.SortFunc(want.picks, func(a, b api.Pick) int { return a.Bidder - b.Bidder })
		checkGiven(t, "Solve", all, solved(all), want)
		checkGiven(t, "the first one of Ranked", all, gather(all, 1)[0], want)
		last := given{}
		for i, g := range gather(all, 50) {
			if i > 0 && (g.total > last.total || wdp.Better(all, last.picks, g.picks) != -1 || wdp.Better(all, g.picks, last.picks) != 1) {
				t.Fatalf("number %d, %v, stands behind %v", i, g, last)
			}
			last = g
		}
	}
}

// P16.1, P16.2: Ranked of many bids: each one is an assignment that stands behind the one ahead of it.
func TestRankedOfMany(t *testing.T) {
	rnd := rand.New(rand.NewPCG(19, 16))
	for _, most := range []int64{1, 3, 1000} {
		all := manyBids(20, 12, func() api.Bid {
			return api.Bid{Set: someItems(rnd, 30, 1+rnd.IntN(3)), Price: 1 + rnd.Int64N(most)}
		})
		gs := gather(all, 60)
		checkGiven(t, "the first one of Ranked", all, gs[0], solved(all))
		for i := range gs[1:] {
			if gs[i].total < gs[i+1].total || wdp.Better(all, gs[i].picks, gs[i+1].picks) != -1 {
				t.Fatalf("%v stands ahead of %v", gs[i], gs[i+1])
			}
		}
	}
}

// dealt are lists of bids, dealt to bidders at random, so that many have the same ones.
func dealt(rnd *rand.Rand, bidders int, lists [][]api.Bid) [][]api.Bid {
	var all [][]api.Bid
	for range bidders {
		all = append(all, slices.Clone(lists[rnd.IntN(len(lists))]))
	}
	return all
}

// P16.1, P16.2: bidders many of which have the same bids: the first ones of them stand ahead.
func TestSameBids(t *testing.T) {
	rnd := rand.New(rand.NewPCG(31, 16))
	for n := range 200 {
		items, most := []int{6, 12, 24, 40, 64}[n%5], []int64{1, 2, 4, 30}[n%4]
		lists := manyBids(1+n%3, 1+rnd.IntN(6), func() api.Bid {
			return api.Bid{Set: someItems(rnd, items, 1+rnd.IntN(1+items/4)), Price: rnd.Int64N(most)}
		})
		all := dealt(rnd, 2+rnd.IntN(5), lists)
		checkGiven(t, "Solve", all, solved(all), firstOf(all, every))
		if n%4 == 0 {
			want := rankedOf(all)
			checkAll(t, "Ranked", all, gather(all, len(want)+1), want)
		}
	}
}

// P16.1, P16.2: bids that are hard, which many bidders have alike.
func TestHardSameBids(t *testing.T) {
	if testing.Short() {
		t.Skip("takes some seconds")
	}
	rnd := rand.New(rand.NewPCG(32, 16))
	for n := range 8 {
		few := int64([]int{1, 3, 1000}[n%3])
		lists := manyBids(1+n%4, 12, func() api.Bid {
			return api.Bid{Set: someItems(rnd, 21, 2+rnd.IntN(3)), Price: 10 + rnd.Int64N(few)}
		})
		all := dealt(rnd, 9, lists)
		first := sharedOf(all, 21)
		checkGiven(t, "Solve", all, solved(all), first)
		checkGiven(t, "the first one of Ranked", all, gather(all, 1)[0], first)
	}
}

// P16.1, P16.2: hard bids of small prices, and bidders behind them with great
// ones: each for an item of its own, or for some more with one of the others.
func TestFarPrices(t *testing.T) {
	const hard, great, items = 9, 5, 16
	for seed := range uint64(8) {
		rnd := rand.New(rand.NewPCG(33, seed))
		all := manyBids(hard, 12, func() api.Bid {
			return api.Bid{Set: someItems(rnd, items, 2), Price: 10 + rnd.Int64N(3)}
		})
		gain, links := 1+rnd.Int64N(12), rnd.Perm(items)[:great]
		for k, item := range links {
			own := uint64(1) << (30 + k)
			all = append(all, []api.Bid{{Set: own, Price: big - gain}, {Set: own | 1<<item, Price: big}})
		}
		want := given{total: -1}
		for linked := range 1 << great { // those that have the item of the others: the less of them, the farther ahead
			free := every
			for k, item := range links {
				if linked>>k&1 == 1 {
					free &^= 1 << item
				}
			}
			g := sharedWithin(all[:hard], 0, 0, items, free)
			for k := range great {
				b := all[hard+k][linked>>k&1]
				g.picks, g.total = append(g.picks, api.Pick{Bidder: hard + k, Set: b.Set, Price: b.Price}), g.total+b.Price
			}
			if g.total > want.total || g.total == want.total && wdp.Better(all, g.picks, want.picks) < 0 {
				want = g
			}
		}
		soon(t, "Solve", func() { checkGiven(t, "Solve", all, solved(all), want) })
	}
}

// rings are bids of 64 bidders for each row of neighbouring items of a ring,
// all at one price, but for the last bidders, whose price is another one.
func rings(long, items, last int, price, other int64) [][]api.Bid {
	all := make([][]api.Bid, 64)
	for i := range all {
		for start := range items {
			b := api.Bid{Price: price}
			for k := range long {
				b.Set |= 1 << ((start + k) % items)
			}
			if i >= 64-last {
				b.Price = other
			}
			all[i] = append(all[i], b)
		}
	}
	return all
}

// P16.1, P16.2: 64 bidders that bid alike for more rows of items than there are
// bidders, or less: the greater price has it, or the first ones.
func TestRings(t *testing.T) {
	for _, r := range []struct {
		long, items, last int
		price, other      int64
	}{
		{1, 32, 32, 0, 3}, {1, 22, 40, 0, 3}, {1, 32, 16, 5, 7}, {1, 64, 30, 6, 7}, {1, 40, 5, 7, 7},
		{2, 32, 40, 0, 3}, {2, 33, 16, 6, 9}, {2, 33, 32, 3, 6}, {2, 47, 20, 8, 8},
		{3, 32, 17, 6, 9}, {3, 64, 44, 6, 9}, {3, 64, 0, 6, 9}, {5, 64, 29, 6, 9}, {5, 64, 16, 9, 10}, {7, 64, 20, 1, 1},
	} {
		all := rings(r.long, r.items, r.last, r.price, r.other)
		var want given
		places := r.items / r.long
		start, end := 64-r.last, 64 // who has the greater price
		if r.other <= r.price {
			start, end = 0, 64
		}
		ahead := max(places-(end-start), 0) // of those of the less one, the first ones have what is left
		for i := range all {
			if place := len(want.picks); place < places && (i < ahead || i >= start && i < end) {
				p := api.Pick{Bidder: i, Set: (1<<r.long - 1) << (place * r.long), Price: all[i][0].Price}
				want.picks, want.total = append(want.picks, p), want.total+p.Price
			}
		}
		soon(t, "Solve", func() { checkGiven(t, "Solve", all, solved(all), want) })
	}
}
