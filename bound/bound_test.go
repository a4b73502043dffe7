// The tests of layer 15. Above each stands the promise that it holds the program to.
package bound_test

import (
	"math"
	"math/rand/v2"
	"slices"
	"testing"
	"time"

	"saleroom/api"
	"saleroom/bound"
)

const (
	every uint64 = math.MaxUint64 // the set of all items
	big   int64  = 1 << 41        // the greatest price
	most  int64  = 1 << 50        // the greatest sum
)

// bids are bids told as sets and prices in turn.
func bids(numbers ...int64) []api.Bid {
	var bs []api.Bid
	for i := 0; i < len(numbers); i += 2 {
		bs = append(bs, api.Bid{Set: uint64(numbers[i]), Price: numbers[i+1]})
	}
	return bs
}

// picks are picks told as bidders, sets and prices in turn.
func picks(numbers ...int64) []api.Pick {
	var ps []api.Pick
	for i := 0; i < len(numbers); i += 3 {
		ps = append(ps, api.Pick{Bidder: int(numbers[i]), Set: uint64(numbers[i+1]), Price: numbers[i+2]})
	}
	return ps
}

// bidders are as many bidders with the same bids.
func bidders(n int, numbers ...int64) [][]api.Bid {
	return slices.Repeat([][]api.Bid{bids(numbers...)}, n)
}

// itemsOf are a set's items, found bit by bit.
func itemsOf(s uint64) []int {
	var items []int
	for i := range 64 {
		if s>>i%2 == 1 {
			items = append(items, i)
		}
	}
	return items
}

// isRight tells whether a bid is right, as layer 14 tells it.
func isRight(b api.Bid) bool { return b.Set != 0 && b.Price >= 0 && b.Price <= big }

// countingOf are the bids that count: of the bidders from a place on, right ones within the free items.
func countingOf(all [][]api.Bid, from int, free uint64) [][]api.Bid {
	var got [][]api.Bid
	for i, bs := range all {
		if i < from {
			continue
		}
		var some []api.Bid
		for _, b := range bs {
			if isRight(b) && b.Set|free == free {
				some = append(some, b)
			}
		}
		got = append(got, some)
	}
	return got
}

// eachOf is the greatest prices of each bidder, added up.
func eachOf(all [][]api.Bid, from int, free uint64) int64 {
	var total int64
	for _, bs := range countingOf(all, from, free) {
		var price int64
		for _, b := range bs {
			price = max(price, b.Price)
		}
		total += price
	}
	return min(total, most)
}

// sharesOf is the greatest shares of each free item, added up.
func sharesOf(all [][]api.Bid, from int, free uint64) int64 {
	var total int64
	some := slices.Concat(countingOf(all, from, free)...)
	for _, item := range itemsOf(free) {
		var greatest int64
		for _, b := range some {
			if b.Set>>item%2 == 1 {
				n := int64(len(itemsOf(b.Set)))
				greatest = max(greatest, (b.Price+n-1)/n)
			}
		}
		total += greatest
	}
	return min(total, most)
}

// bestOf is the greatest total of an assignment, all of them tried.
func bestOf(all [][]api.Bid, from int, free uint64) int64 {
	left := countingOf(all, from, free)
	var try func(left [][]api.Bid, free uint64) int64
	try = func(left [][]api.Bid, free uint64) int64 {
		if len(left) == 0 {
			return 0
		}
		total := try(left[1:], free)
		for _, b := range left[0] {
			if b.Set|free == free {
				total = max(total, b.Price+try(left[1:], free&^b.Set))
			}
		}
		return total
	}
	return try(left, free)
}

// addable tells whether a bid can be added to picks.
func addable(ps []api.Pick, bidder int, b api.Bid) bool {
	for _, p := range ps {
		if p.Bidder == bidder || p.Set&b.Set != 0 {
			return false
		}
	}
	return isRight(b)
}

// greedyOf is the assignment that is made bid by bid, each time looking at all bids anew.
func greedyOf(all [][]api.Bid) ([]api.Pick, int64) {
	var ps []api.Pick
	var total int64
	for {
		best := api.Pick{Bidder: -1, Price: -1}
		for i, bs := range all {
			for _, b := range bs {
				if b.Price > best.Price && addable(ps, i, b) {
					best = api.Pick{Bidder: i, Set: b.Set, Price: b.Price}
				}
			}
		}
		if best.Bidder < 0 {
			slices.SortFunc(ps, func(a, b api.Pick) int { return a.Bidder - b.Bidder })
			return ps, total
		}
		ps = append(ps, best)
		total += best.Price
	}
}

// isAssignment tells whether picks are an assignment by rising bidder, by the document's word.
func isAssignment(all [][]api.Bid, ps []api.Pick) bool {
	for i, p := range ps {
		if p.Bidder < 0 || p.Bidder >= len(all) || !isRight(api.Bid{Set: p.Set, Price: p.Price}) {
			return false
		}
		stands := false
		for _, b := range all[p.Bidder] {
			stands = stands || b.Set == p.Set && b.Price == p.Price
		}
		for _, q := range ps[:i] {
			stands = stands && q.Bidder < p.Bidder && q.Set&p.Set == 0
		}
		if !stands {
			return false
		}
	}
	return true
}

// dualOf is the bound by prices of items, step by step as the document tells it.
func dualOf(all [][]api.Bid, from int, free uint64, turns int) int64 {
	left, prices, step := countingOf(all, from, free), map[int]int64{}, int64(0)
	for _, b := range slices.Concat(left...) {
		step = max(step, b.Price)
	}
	reckon := func() (int64, map[int]int) {
		var total int64
		times := map[int]int{}
		for _, item := range itemsOf(free) {
			total += prices[item]
		}
		for _, bs := range left {
			var has int64
			var first []int
			for _, b := range bs {
				gives := b.Price
				for _, item := range itemsOf(b.Set) {
					gives -= prices[item]
				}
				if gives > has {
					has, first = gives, itemsOf(b.Set)
				}
			}
			total += has
			for _, item := range first {
				times[item]++
			}
		}
		return min(total, most), times
	}
	least, times := reckon()
	for turn := 0; turn < turns && turn < 50; turn++ {
		for _, item := range itemsOf(free) {
			if times[item] > 1 {
				prices[item] += max(step, 1)
			} else if times[item] == 0 {
				prices[item] = max(prices[item]-max(step, 1), 0)
			}
		}
		step /= 2
		var next int64
		next, times = reckon()
		least = min(least, next)
	}
	return least
}

// oneOf is a bid at random: of few items or of many, of few prices or of many, right or not.
func oneOf(rnd *rand.Rand, items int, most int64) api.Bid {
	b := api.Bid{Set: rnd.Uint64() >> (64 - items), Price: rnd.Int64N(most + 1)}
	if rnd.IntN(2) == 0 {
		b.Set &= rnd.Uint64()
	}
	switch rnd.IntN(20) {
	case 0:
		b.Set = 0
	case 1:
		b.Price = []int64{-1, math.MinInt64, -big, big + 1, math.MaxInt64}[rnd.IntN(5)]
	case 2:
		b.Price = []int64{0, big - 1, big}[rnd.IntN(3)]
	}
	return b
}

// sales are bids of bidders at random, by hand, and at their ends: few enough that all assignments can be tried.
func sales() [][][]api.Bid {
	alls := [][][]api.Bid{nil, {}, {nil}, {nil, {}, nil}, {{{}}}, {bids(1, 0)}, {bids(-1, big)}, {bids(1, big+1, 2, -1, 0, 5)}, {bids(3, 5), bids(1, 3, 4, 1), bids(2, 3)}, {bids(3, 5), bids(1, 3)}}
	rnd := rand.New(rand.NewPCG(1, 15))
	for n := range 600 {
		all := make([][]api.Bid, 1+rnd.IntN(6))
		items, price := 1+rnd.IntN(6), int64(rnd.IntN(20))
		if n%5 == 0 {
			items, price = 1+rnd.IntN(64), big
		}
		for i := range all {
			for range rnd.IntN(5) {
				all[i] = append(all[i], oneOf(rnd, items, price))
			}
		}
		alls = append(alls, all)
	}
	return alls
}

// freeFor are sets of free items to hold against bids.
func freeFor(rnd *rand.Rand, all [][]api.Bid) []uint64 {
	ss := []uint64{0, 1, 2, 3, every, every - 1, every >> 1, 1 << 63, rnd.Uint64(), rnd.Uint64() % 64, rnd.Uint64() % 64, 63, 31}
	for _, b := range slices.Concat(all...) {
		if rnd.IntN(4) == 0 {
			ss = append(ss, b.Set, b.Set|rnd.Uint64()%64, ^b.Set)
		}
	}
	return ss
}

// froms are places to go on from.
func froms(all [][]api.Bid) []int {
	return []int{math.MinInt, -1, 0, 1, 2, len(all) / 2, len(all) - 1, len(all), len(all) + 1, math.MaxInt}
}

// checkSum: a sum is what it should be.
func checkSum(t *testing.T, what string, all [][]api.Bid, from int, free uint64, got, want int64) {
	t.Helper()
	if got != want {
		if len(all) > 20 {
			all = all[:20]
		}
		t.Errorf("%s of %v from %d on, within %b, is %d, not %d", what, all, from, free, got, want)
	}
}

// checkPicks: picks are what they should be.
func checkPicks(t *testing.T, what string, got, want []api.Pick) {
	t.Helper()
	if !slices.Equal(got, want) {
		t.Errorf("%s: %v, not %v", what, got, want)
	}
}

// checkLists: lists are what they should be.
func checkLists(t *testing.T, what string, got, want [][]api.Bid) {
	t.Helper()
	if !slices.EqualFunc(got, want, slices.Equal[[]api.Bid]) {
		t.Errorf("%s: %v, not %v", what, got, want)
	}
}

// cloneOf are lists anew.
func cloneOf(all [][]api.Bid) [][]api.Bid {
	other := slices.Clone(all)
	for i := range other {
		other[i] = slices.Clone(other[i])
	}
	return other
}

// soon fails a test in which a call doesn't end.
func soon(t *testing.T, what string, do func()) {
	t.Helper()
	done := make(chan struct{})
	go func() {
		defer close(done)
		do()
	}()
	select {
	case <-done:
	case <-time.After(30 * time.Second):
		t.Fatalf("%s doesn't end", what)
	}
}

// P15.1: the document's example.
func TestExample(t *testing.T) {
	all := [][]api.Bid{bids(3, 5), bids(1, 3)}
	checkSum(t, "Each", all, 0, 3, bound.Each(all, 0, 3), 8)
	checkSum(t, "Items", all, 0, 3, bound.Items(all, 0, 3), 6)
	checkSum(t, "Upper", all, 0, 3, bound.Upper(all, 0, 3), 6)
	ps, n := bound.Greedy(all)
	checkPicks(t, "Greedy", ps, picks(0, 3, 5))
	if n != 5 {
		t.Errorf("Greedy's total is %d", n)
	}
}

// P15.1: what there can be got at most by hand: places below 0 and behind all, free items, shares rounded up, bids that aren't right.
func TestUpperByHand(t *testing.T) {
	all := [][]api.Bid{bids(3, 5), bids(1, 3, 4, 1), bids(2, 3)}
	wrong := [][]api.Bid{bids(0, 9, 1, -1, 1, big+1, 2, 4), bids(1, math.MaxInt64, 2, math.MinInt64), nil, bids(4, 0)}
	for i, r := range []struct {
		all         [][]api.Bid
		from        int
		free        uint64
		each, items int64
	}{
		{nil, 0, every, 0, 0}, {nil, 1, every, 0, 0}, {nil, -1, 0, 0, 0}, {[][]api.Bid{nil, {}}, 0, every, 0, 0},
		{all, 0, 7, 11, 7}, {all, -5, 7, 11, 7}, {all, math.MinInt, 7, 11, 7}, {all, 1, 7, 6, 7}, {all, 2, 7, 3, 3}, {all, 3, 7, 0, 0}, {all, 4, 7, 0, 0}, {all, math.MaxInt, 7, 0, 0},
		{all, 0, 0, 0, 0}, {all, 0, 1, 3, 3}, {all, 0, 2, 3, 3}, {all, 0, 4, 1, 1}, {all, 0, 5, 3, 4}, {all, 0, 6, 4, 4}, {all, 0, 3, 11, 6}, {all, 0, every, 11, 7}, {all, 0, every - 7, 0, 0}, {all, 0, every - 1, 4, 4},
		{wrong, 0, every, 4, 4}, {wrong, 1, every, 0, 0}, {wrong, 0, 1, 0, 0}, {wrong, 0, 2, 4, 4},
		{[][]api.Bid{bids(7, 1)}, 0, 7, 1, 3}, {[][]api.Bid{bids(7, 3)}, 0, 7, 3, 3}, {[][]api.Bid{bids(7, 4)}, 0, 7, 4, 6}, {[][]api.Bid{bids(7, 4)}, 0, 3, 0, 0}, {[][]api.Bid{bids(7, 0)}, 0, 7, 0, 0}, {[][]api.Bid{bids(-1, 1)}, 0, every, 1, 64},
		{[][]api.Bid{bids(3, 9, 6, 3, 4, 1)}, 0, 7, 9, 12}, {[][]api.Bid{bids(3, 9, 6, 3, 4, 1)}, 0, 6, 3, 4}, {[][]api.Bid{bids(1, 2, 1, 7, 1, 3)}, 0, 1, 7, 7},
		{[][]api.Bid{bids(1, big)}, 0, 1, big, big}, {[][]api.Bid{bids(1, big-1, 1, big+1)}, 0, 1, big - 1, big - 1}, {[][]api.Bid{bids(3, big-1)}, 0, 3, big - 1, big}, {[][]api.Bid{bids(math.MinInt64, 5)}, 0, 1 << 63, 5, 5},
	} {
		checkSum(t, "Each", r.all, r.from, r.free, bound.Each(r.all, r.from, r.free), r.each)
		checkSum(t, "Items", r.all, r.from, r.free, bound.Items(r.all, r.from, r.free), r.items)
		checkSum(t, "Upper", r.all, r.from, r.free, bound.Upper(r.all, r.from, r.free), min(r.each, r.items))
		if t.Failed() {
			t.Fatalf("case %d", i)
		}
	}
}

// P15.1: a sum above 2^50 is that.
func TestGreatSums(t *testing.T) {
	for n, want := range map[int]int64{1: big, 2: 2 * big, 511: 511 * big, 512: most, 513: most, 1000: most, 5000: most} {
		all := bidders(n, 1, big)
		checkSum(t, "Each", all, 0, 1, bound.Each(all, 0, 1), want)
		checkSum(t, "Items", all, 0, 1, bound.Items(all, 0, 1), big)
		checkSum(t, "Upper", all, 0, 1, bound.Upper(all, 0, 1), big)
		checkSum(t, "Dual", all, 0, 1, bound.Dual(all, 0, 1, 0), want)
	}
	all := append(bidders(511, 1, big), bids(1, big-1))
	checkSum(t, "Each", all, 0, 1, bound.Each(all, 0, 1), most-1)
	all = append(all, bids(1, 1), bids(1, 0))
	checkSum(t, "Each", all, 0, 1, bound.Each(all, 0, 1), most)
	checkSum(t, "Each", all, 1, 1, bound.Each(all, 1, 1), most-big)
	var whole []api.Bid
	for i := range 64 {
		whole = append(whole, api.Bid{Set: 1 << i, Price: big})
	}
	checkSum(t, "Items", nil, 0, every, bound.Items([][]api.Bid{whole}, 0, every), 64*big)
	for i, r := range []struct {
		prices []int64
		want   int64
	}{
		{nil, 0}, {[]int64{5}, 5}, {[]int64{-5}, 0}, {[]int64{5, -7, 3}, 8}, {[]int64{math.MinInt64, 1}, 1}, {[]int64{math.MaxInt64}, most}, {[]int64{math.MaxInt64, math.MaxInt64, math.MaxInt64}, most}, {[]int64{most}, most}, {[]int64{most - 1}, most - 1}, {[]int64{most + 1}, most},
		{[]int64{most - 1, 1}, most}, {[]int64{1, most - 2}, most - 1}, {[]int64{most, -1}, most}, {[]int64{math.MaxInt64, math.MinInt64}, most}, {[]int64{math.MinInt64, math.MinInt64}, 0}, {[]int64{1 << 49, 1 << 49, 5}, most}, {[]int64{0, 0}, 0}, {slices.Repeat([]int64{big}, 511), 511 * big}, {slices.Repeat([]int64{big}, 600), most},
	} {
		var ps []api.Pick
		for _, price := range r.prices {
			ps = append(ps, api.Pick{Bidder: 3, Price: price}) // whatever else they are
		}
		if got := bound.Sum(ps); got != r.want {
			t.Errorf("%d: Sum is %d, not %d", i, got, r.want)
		}
	}
}

// P15.1: what there can be got at most, of bids at random.
func TestUpperAtRandom(t *testing.T) {
	rnd := rand.New(rand.NewPCG(2, 15))
	for _, all := range sales() {
		for _, free := range freeFor(rnd, all) {
			for _, from := range froms(all) {
				each, items := eachOf(all, from, free), sharesOf(all, from, free)
				checkSum(t, "Each", all, from, free, bound.Each(all, from, free), each)
				checkSum(t, "Items", all, from, free, bound.Items(all, from, free), items)
				checkSum(t, "Upper", all, from, free, bound.Upper(all, from, free), min(each, items))
			}
		}
	}
}

// P15.2: no assignment has a total above Upper, nor above Dual; with fewer items or bidders Upper is no more.
func TestUpperIsAbove(t *testing.T) {
	rnd := rand.New(rand.NewPCG(3, 15))
	for _, all := range sales() {
		for _, free := range freeFor(rnd, all) {
			for from := range len(all) + 1 {
				best, upper := bestOf(all, from, free), bound.Upper(all, from, free)
				if upper < best {
					t.Errorf("Upper of %v from %d on, within %b, is %d, of what gives %d", all, from, free, upper, best)
				}
				if dual := bound.Dual(all, from, free, rnd.IntN(60)); dual < best {
					t.Errorf("Dual of %v from %d on, within %b, is %d, of what gives %d", all, from, free, dual, best)
				}
				for _, less := range []int64{bound.Upper(all, from+1, free), bound.Upper(all, from, free&rnd.Uint64()), bound.Upper(all, from, free&(free-1))} {
					if less > upper {
						t.Errorf("Upper of less than %v from %d on, within %b, is %d, not %d", all, from, free, less, upper)
					}
				}
			}
			for gone := range all {
				without := slices.Concat(all[:gone], all[gone+1:])
				if less, upper := bound.Upper(without, 0, free), bound.Upper(all, 0, free); less > upper {
					t.Errorf("Upper of %v without %d, within %b, is %d, not %d", all, gone, free, less, upper)
				}
			}
		}
	}
}

// P15.1: picks bid by bid, by hand: of the same price those of the earlier bidder, then those that stand first; those of price 0, too.
func TestGreedyByHand(t *testing.T) {
	for i, r := range []struct {
		all   [][]api.Bid
		want  []api.Pick
		total int64
	}{
		{nil, nil, 0}, {[][]api.Bid{nil, {}}, nil, 0}, {[][]api.Bid{bids(0, 5, 1, -1, 1, big+1)}, nil, 0}, {[][]api.Bid{bids(1, 5)}, picks(0, 1, 5), 5},
		{[][]api.Bid{bids(3, 5), bids(1, 3, 4, 1), bids(2, 3)}, picks(0, 3, 5, 1, 4, 1), 6},
		{[][]api.Bid{bids(1, 3), bids(3, 5)}, picks(1, 3, 5), 5}, {[][]api.Bid{bids(1, 3), bids(3, 3)}, picks(0, 1, 3), 3}, {[][]api.Bid{bids(3, 3), bids(1, 3)}, picks(0, 3, 3), 3},
		{[][]api.Bid{bids(1, 3, 2, 3), bids(1, 3, 2, 3)}, picks(0, 1, 3, 1, 2, 3), 6}, {[][]api.Bid{bids(2, 3, 1, 3), bids(1, 3, 2, 3)}, picks(0, 2, 3, 1, 1, 3), 6}, {[][]api.Bid{bids(2, 3, 1, 4), bids(1, 3, 2, 4)}, picks(0, 1, 4, 1, 2, 4), 8},
		{[][]api.Bid{bids(1, 1), bids(2, 2), bids(4, 3)}, picks(0, 1, 1, 1, 2, 2, 2, 4, 3), 6}, {[][]api.Bid{bids(8, 1), nil, bids(2, 2), bids(10, 3)}, picks(3, 10, 3), 3},
		{[][]api.Bid{bids(1, 0)}, picks(0, 1, 0), 0}, {[][]api.Bid{bids(1, 0), bids(1, 0), bids(2, 0)}, picks(0, 1, 0, 2, 2, 0), 0}, {[][]api.Bid{bids(3, 0), bids(1, 5)}, picks(1, 1, 5), 5}, {[][]api.Bid{bids(2, 0), bids(1, 5)}, picks(0, 2, 0, 1, 1, 5), 5},
		{[][]api.Bid{bids(1, 9, 2, 8), bids(1, 7)}, picks(0, 1, 9), 9}, {[][]api.Bid{bids(1, 5, 1, 5), bids(2, 5, 2, 4)}, picks(0, 1, 5, 1, 2, 5), 10},
		{[][]api.Bid{bids(1, big+1, 3, 2), bids(2, 1, 1, math.MaxInt64)}, picks(0, 3, 2), 2}, {[][]api.Bid{bids(math.MinInt64, big), bids(math.MaxInt64, big), bids(-1, big-1)}, picks(0, math.MinInt64, big, 1, math.MaxInt64, big), 2 * big},
	} {
		got, total := bound.Greedy(r.all)
		checkPicks(t, "Greedy", got, r.want)
		if total != r.total || bound.Sum(got) != r.total || !bound.Valid(r.all, got) {
			t.Errorf("%d: the total is %d, Sum %d", i, total, bound.Sum(got))
		}
	}
	var ends [][]api.Bid
	for i := range 100 {
		ends = append(ends, bids(1<<(i%64), big))
	}
	if ps, total := bound.Greedy(ends); len(ps) != 64 || total != 64*big || ps[63] != (api.Pick{Bidder: 63, Set: 1 << 63, Price: big}) {
		t.Errorf("of all items, at the greatest price: %d, in %d picks", total, len(ps))
	}
}

// P15.1, P15.3: picks bid by bid, of bids at random: an assignment to which no bid of an unpicked bidder can be added.
func TestGreedyAtRandom(t *testing.T) {
	for _, all := range sales() {
		got, total := bound.Greedy(all)
		want, sum := greedyOf(all)
		checkPicks(t, "Greedy", got, want)
		if total != sum || bound.Sum(got) != sum || bestOf(all, 0, every) < total {
			t.Errorf("Greedy's total of %v is %d, not %d", all, total, sum)
		}
		if !bound.Valid(all, got) || !isAssignment(all, got) {
			t.Errorf("%v is no assignment of %v", got, all)
		}
		for i, bs := range all {
			for _, b := range bs {
				if addable(got, i, b) {
					t.Errorf("to %v can be added %v of %d", got, b, i)
				}
			}
		}
	}
}

// P15.1: picks that are an assignment, and such as aren't, each for one reason alone.
func TestValidByHand(t *testing.T) {
	all := [][]api.Bid{bids(3, 5, 4, 0, 0, 7, 8, -1, 8, big+1), bids(1, 3, 4, 1), bids(2, 3, 16, big), nil, bids(32, 2, 64, 2)}
	for _, ps := range [][]api.Pick{
		nil, {}, picks(0, 3, 5), picks(0, 4, 0), picks(1, 1, 3), picks(2, 16, big), picks(4, 64, 2), picks(0, 3, 5, 1, 4, 1), picks(0, 4, 0, 1, 1, 3, 2, 2, 3, 4, 32, 2), picks(1, 1, 3, 2, 2, 3), picks(0, 3, 5, 2, 16, big), picks(0, 3, 5, 4, 64, 2),
	} {
		if !bound.Valid(all, ps) {
			t.Errorf("%v is no assignment", ps)
		}
	}
	for _, ps := range [][]api.Pick{
		picks(1, 4, 1, 0, 3, 5), picks(2, 2, 3, 1, 1, 3), picks(0, 4, 0, 2, 2, 3, 1, 1, 3), // bidders that don't rise
		picks(0, 3, 5, 0, 3, 5), picks(4, 32, 2, 4, 64, 2), picks(2, 2, 3, 2, 16, big), // two bids of one bidder
		picks(0, 3, 5, 2, 2, 3), picks(0, 3, 5, 1, 1, 3), picks(0, 4, 0, 1, 4, 1), // an item twice
		picks(0, 3, 6), picks(0, 3, 4), picks(0, 1, 5), picks(0, 1, 3), picks(1, 3, 5), picks(3, 3, 5), picks(0, 0, 0), picks(1, 1, 1), picks(2, 16, big-1), // no such bid
		picks(0, 0, 7), picks(0, 8, -1), picks(0, 8, big+1), // bids that aren't right
		picks(5, 3, 5), picks(-1, 3, 5), picks(math.MaxInt64, 3, 5), picks(math.MinInt64, 3, 5), picks(0, 3, 5, 5, 64, 2), // nobody of that number
		{{}}, make([]api.Pick, 100),
	} {
		if bound.Valid(all, ps) {
			t.Errorf("%v is an assignment", ps)
		}
	}
	if !bound.Valid(nil, nil) || bound.Valid(nil, picks(0, 1, 0)) || bound.Valid([][]api.Bid{nil}, picks(0, 0, 0)) || bound.Valid([][]api.Bid{{{}}}, picks(0, 0, 0)) {
		t.Error("of no bids")
	}
}

// P15.1: picks of bids at random, some turned, are an assignment as the document tells it.
func TestValidAtRandom(t *testing.T) {
	rnd := rand.New(rand.NewPCG(4, 15))
	rights := 0
	for _, all := range sales() {
		for range 40 {
			var ps []api.Pick
			for i, bs := range all {
				if len(bs) > 0 && rnd.IntN(3) > 0 {
					b := bs[rnd.IntN(len(bs))]
					ps = append(ps, api.Pick{Bidder: i, Set: b.Set, Price: b.Price})
				}
			}
			for i := range ps {
				switch rnd.IntN(20) {
				case 0:
					ps[i].Bidder += rnd.IntN(3) - 1
				case 1:
					ps[i].Price += rnd.Int64N(3) - 1
				case 2:
					ps[i].Set ^= 1 << rnd.IntN(8)
				case 3:
					ps[0], ps[i] = ps[i], ps[0]
				}
			}
			want := isAssignment(all, ps)
			if got := bound.Valid(all, ps); got != want {
				t.Errorf("Valid of %v, %v is %v", all, ps, got)
			}
			if want && len(ps) > 1 {
				rights++
			}
		}
	}
	if rights < 100 {
		t.Errorf("of all picks only %d are an assignment", rights)
	}
}

// checkDual: what Dual tells of 0 turns, of 1, and so on, within items 0 to 2.
func checkDual(t *testing.T, all [][]api.Bid, want ...int64) {
	t.Helper()
	for turns, n := range want {
		if got := bound.Dual(all, 0, 7, turns); got != n {
			t.Errorf("Dual of %v in %d turns is %d, not %d", all, turns, got, n)
		}
	}
}

// P15.1: the bound by prices of items by hand, turn by turn.
func TestDualByHand(t *testing.T) {
	// The price 5, which nobody gives more than; it falls by 2, to 3: 2 of the first one; by then it is counted once, and stays.
	checkDual(t, [][]api.Bid{bids(1, 5), bids(1, 3)}, 8, 5, 5, 5)
	// Both prices rise to 3: 6; they fall to 2: 4; to 1: 2, and 1 of each bidder; they rise to 2.
	checkDual(t, bidders(3, 3, 3), 9, 6, 4, 4, 4)
	// The greatest price of all makes the step, though it is for another item: {0} is 8, then 4, then 2.
	checkDual(t, [][]api.Bid{bids(1, 2), bids(1, 2), bids(2, 8)}, 12, 12, 12, 10)
	// The steps 1, 1, 1: {0} is 1 and counted still: 3; it is 2: 2.
	checkDual(t, [][]api.Bid{bids(1, 1), bids(1, 1)}, 2, 1, 1)
	// The steps 3, 1, not 3, 2: {0} and {1} are 3: 6; they are 2: 4 and nothing more.
	checkDual(t, [][]api.Bid{bids(3, 3), bids(3, 3), bids(1, 2)}, 8, 6, 4)
	// Of the same gain the first one is counted: {0,1}, so that both rise to 6; {1}, so that it does alone.
	checkDual(t, [][]api.Bid{bids(7, 1), bids(3, 6, 2, 6)}, 7, 7)
	checkDual(t, [][]api.Bid{bids(7, 1), bids(2, 6, 3, 6)}, 7, 6)
	// Who has 0 isn't counted: else {1} would be 4, too.
	checkDual(t, [][]api.Bid{bids(1, 4), bids(1, 3), bids(2, 0), bids(2, 0)}, 7, 4, 4)
	// What isn't right, or isn't free, counts nowhere, for the step neither.
	checkDual(t, [][]api.Bid{bids(1, 5, 0, 9, 1, big+1, 2, -7, 8, 100, 9, 100), bids(1, 3)}, 8, 5, 5)
	for i, none := range [][][]api.Bid{nil, {nil, {}}, {bids(0, 5, 1, -1, 1, big+1, 8, 9)}, bidders(2, 1, 0)} {
		checkDual(t, none, 0, 0, 0)
		if t.Failed() {
			t.Fatalf("case %d", i)
		}
	}
}

// P15.1: the bound by prices of items at its edges: places, free items, turns below 0 and above 50.
func TestDualAtItsEdges(t *testing.T) {
	two := [][]api.Bid{bids(1, 5), bids(1, 3)}
	for _, r := range []struct {
		all   [][]api.Bid
		from  int
		free  uint64
		turns int
		want  int64
	}{
		{two, 0, 1, -1, 8}, {two, 0, 1, math.MinInt, 8}, {two, 0, 1, 50, 5}, {two, 0, 1, math.MaxInt, 5}, {two, 0, every, 1, 5}, {two, 0, every - 1, 5, 0}, {two, 0, 0, 5, 0},
		{two, 1, 1, 0, 3}, {two, 1, 1, 5, 3}, {two, 2, 1, 5, 0}, {two, 3, 1, 5, 0}, {two, math.MaxInt, 1, 5, 0}, {two, -3, 1, 0, 8}, {two, math.MinInt, 1, 1, 5},
		{[][]api.Bid{bids(2, 100), bids(1, 5), bids(1, 3)}, 1, 3, 1, 5}, // of whom is ahead of the place nothing counts
		{bidders(600, 1, big), 0, 1, 0, most}, {bidders(600, 1, big), 0, 1, 1, big}, {bidders(600, 1, big), 0, every, 50, big}, {bidders(600, -1, big), 0, every, 50, bound.Dual(bidders(2, -1, big), 0, every, 50)},
	} {
		checkSum(t, "Dual", r.all, r.from, r.free, bound.Dual(r.all, r.from, r.free, r.turns), r.want)
	}
	slow := [][]api.Bid{bids(7, 1117499648767), bids(7, 1573169518452, 4, 1469571424814)} // each of the last turns tells 1 less
	for turns, want := range map[int]int64{48: 1702163219466, 49: 1702163219465, 50: 1702163219464, 51: 1702163219464, 52: 1702163219464, 100: 1702163219464, math.MaxInt: 1702163219464} {
		checkSum(t, "Dual", slow, 0, 7, bound.Dual(slow, 0, 7, turns), want)
	}
}

// P15.1: the bound by prices of items as the document tells it, of bids at random; with more turns it's no more.
func TestDualAtRandom(t *testing.T) {
	rnd := rand.New(rand.NewPCG(5, 15))
	for i, all := range sales() {
		ss, places := freeFor(rnd, all), froms(all)
		for n := range 4 {
			free, from, last := every, 0, most
			if n > 0 {
				free, from = ss[rnd.IntN(len(ss))], places[rnd.IntN(len(places))]
			}
			for _, turns := range []int{-1, 0, 1, 2, 3, 4 + i%4, 8 + i%40, 49 + i%2, 51 + i} {
				got := bound.Dual(all, from, free, turns)
				checkSum(t, "Dual", all, from, free, got, dualOf(all, from, free, turns))
				if got > last {
					t.Errorf("Dual of %v is %d of %d turns, %d of fewer", all, got, turns, last)
				}
				last = got
			}
			checkSum(t, "Dual without turns", all, from, free, bound.Dual(all, from, free, 0), bound.Each(all, from, free))
		}
	}
}

// P1 of the whole: long lists end, too.
func TestLongLists(t *testing.T) {
	rnd := rand.New(rand.NewPCG(6, 15))
	var many [][]api.Bid
	var one []api.Bid
	for range 8000 {
		b := oneOf(rnd, 64, big)
		one = append(one, b, oneOf(rnd, 6, 100))
		many = append(many, []api.Bid{b, oneOf(rnd, 6, 100)}, nil)
	}
	zeros := bidders(50000, 1, 0, 2, 0)
	soon(t, "a call of a long list", func() {
		for _, all := range [][][]api.Bid{many, {one}, {one, one, one}, zeros} {
			each, items := eachOf(all, 0, every), sharesOf(all, 0, every)
			checkSum(t, "Each", all, 0, every, bound.Each(all, 0, every), each)
			checkSum(t, "Items", all, 0, every, bound.Items(all, 0, every), items)
			checkSum(t, "Upper", all, 0, every, bound.Upper(all, 0, every), min(each, items))
			ps, total := bound.Greedy(all)
			want, sum := greedyOf(all)
			checkPicks(t, "Greedy", ps, want)
			if total != sum || !bound.Valid(all, ps) || bound.Valid(all, slices.Repeat(ps, 2)) {
				t.Errorf("Greedy of a long list: %d, not %d", total, sum)
			}
			if dual := bound.Dual(all, 0, every, math.MaxInt); dual > each || dual < total {
				t.Errorf("Dual of a long list: %d", dual)
			}
		}
		if got := bound.Sum(make([]api.Pick, 1000000)); got != 0 {
			t.Errorf("Sum of many picks is %d", got)
		}
	})
}

// P15.4: what is handed in stays, the memory behind the lists' lengths too.
func TestArgumentsStay(t *testing.T) {
	for _, all := range sales() {
		room := append(cloneOf(all), bids(7, 7))
		for i := range room {
			room[i] = append(room[i], bids(1, 7, 9, 9, 0, 0)...)
		}
		kept := cloneOf(room)
		given := slices.Clone(room)[:len(all)]
		for i := range given {
			given[i] = given[i][:len(all[i])]
		}
		lists := slices.Clone(given)
		ps, _ := bound.Greedy(given)
		ps = append(ps, picks(0, 7, 7, 2, 9, 1)...)
		before := slices.Clone(ps)
		bound.Each(given, 0, 7)
		bound.Items(given, 0, 7)
		bound.Upper(given, 0, 7)
		bound.Dual(given, 0, 7, 9)
		bound.Valid(given, ps[:len(ps)-2])
		bound.Valid(given, ps)
		bound.Sum(ps[:len(ps)-2])
		checkLists(t, "what was handed in", given, lists)
		checkLists(t, "what was handed in, and behind it", room, kept)
		checkPicks(t, "picks that were handed in, and behind them", ps, before)
	}
}

// P15.4: picks are new memory each time, spare room too: they share none with an argument, nor with each other.
func TestPicksAreNew(t *testing.T) {
	for _, all := range sales() {
		kept := cloneOf(all)
		one, total := bound.Greedy(all)
		other, _ := bound.Greedy(all)
		want := slices.Clone(other)
		one = one[:cap(one)]
		for i := range one {
			one[i] = api.Pick{Bidder: 1 << 40, Set: 1 << 40, Price: 77}
		}
		again, sum := bound.Greedy(all)
		checkPicks(t, "another answer", other, want)
		checkPicks(t, "Greedy behind it", again, want)
		checkLists(t, "what was handed in", all, kept)
		if sum != total {
			t.Errorf("Greedy's total is %d, then %d", total, sum)
		}
		for i := range all { // what is handed in may be written over behind the call
			all[i] = nil
		}
		checkPicks(t, "Greedy of what was written over", again, want)
	}
}

// P2 of the whole: the same lists are answered the same.
func TestAnswersHangOnArguments(t *testing.T) {
	for _, all := range sales() {
		ps, total := bound.Greedy(all)
		upper, dual := bound.Upper(all, 0, every), bound.Dual(all, 0, every, 9)
		for range 3 {
			other := cloneOf(all)
			again, sum := bound.Greedy(other)
			checkPicks(t, "Greedy once more", again, ps)
			if sum != total || bound.Upper(other, 0, every) != upper || bound.Dual(other, 0, every, 9) != dual || bound.Valid(other, ps) != true {
				t.Errorf("of %v once more: %d, %d, %d", all, sum, bound.Upper(other, 0, every), bound.Dual(other, 0, every, 9))
			}
		}
	}
}
