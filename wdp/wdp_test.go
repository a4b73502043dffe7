// The tests of layer 16. Above each stands the promise that it holds the program to.
package wdp_test

import (
	"math"
	"math/bits"
	"math/rand/v2"
	"slices"
	"testing"
	"time"

	"saleroom/api"
	"saleroom/wdp"
)

const (
	every uint64 = math.MaxUint64 // the set of all items
	big   int64  = 1 << 41        // the greatest price
)

// bids are bids told as sets and prices in turn.
func bids(numbers ...int64) []api.Bid {
	var bs []api.Bid
	for i := 0; i < len(numbers); i += 2 {
		bs = append(bs, api.Bid{Set: uint64(numbers[i]), Price: numbers[i+1]})
	}
	return bs
}

// picks are picks told as bidders, sets and prices in turn.
func picks(numbers ...int64) []api.Pick {
	var ps []api.Pick
	for i := 0; i < len(numbers); i += 3 {
		ps = append(ps, api.Pick{Bidder: int(numbers[i]), Set: uint64(numbers[i+1]), Price: numbers[i+2]})
	}
	return ps
}

// given is an assignment and its total.
type given struct {
	picks []api.Pick
	total int64
}

// isRight tells whether a bid is right, as layer 14 tells it.
func isRight(b api.Bid) bool { return b.Set != 0 && b.Price >= 0 && b.Price <= big }

// orderOf is layer 2's order of sets.
func orderOf(a, b uint64) int {
	switch x, y := bits.OnesCount64(a), bits.OnesCount64(b); {
	case x < y || x == y && a < b:
		return -1
	case a != b:
		return 1
	}
	return 0
}

// cleanOf are the clean bids of the first 64 lists, as layer 14 tells them.
func cleanOf(all [][]api.Bid) [][]api.Bid {
	var lists [][]api.Bid
	for i, bs := range all {
		if i == 64 {
			break
		}
		var own []api.Bid
		for k, b := range bs {
			beaten := !isRight(b)
			for j, other := range bs {
				same := other.Set == b.Set && other.Price == b.Price
				beaten = beaten || isRight(other) && other.Set|b.Set == b.Set && other.Price >= b.Price && (!same || j < k)
			}
			if !beaten {
				own = append(own, b)
			}
		}
		slices.SortFunc(own, func(a, b api.Bid) int { return orderOf(a.Set, b.Set) })
		lists = append(lists, own)
	}
	return lists
}

// tryAll goes over all assignments of clean bids within free items: bidder by
// bidder, each bid ahead of none.
func tryAll(lists [][]api.Bid, free uint64, do func(given)) {
	var try func(i int, free uint64, g given)
	try = func(i int, free uint64, g given) {
		if i == len(lists) {
			do(g)
			return
		}
		for _, b := range lists[i] {
			if b.Set|free == free {
				try(i+1, free&^b.Set, given{append(g.picks, api.Pick{Bidder: i, Set: b.Set, Price: b.Price}), g.total + b.Price})
			}
		}
		try(i+1, free, g)
	}
	try(0, free, given{})
}

// firstOf is the first best assignment within free items, all of them tried.
func firstOf(all [][]api.Bid, free uint64) given {
	first := given{total: -1}
	tryAll(cleanOf(all), free, func(g given) {
		if g.total > first.total {
			first = given{slices.Clone(g.picks), g.total}
		}
	})
	return first
}

// rankedOf are all assignments in order: as they are tried, the greater totals ahead.
func rankedOf(all [][]api.Bid) []given {
	var gs []given
	tryAll(cleanOf(all), every, func(g given) { gs = append(gs, given{slices.Clone(g.picks), g.total}) })
	slices.SortStableFunc(gs, func(a, b given) int { return int(max(min(b.total-a.total, 1), -1)) })
	return gs
}

// lacking are bids without those of a bidder.
func lacking(all [][]api.Bid, bidder int) [][]api.Bid {
	other := slices.Clone(all)
	if bidder >= 0 && bidder < len(other) {
		other[bidder] = nil
	}
	return other
}

// gather is what Ranked tells, at most so much of it.
func gather(all [][]api.Bid, most int) []given {
	var gs []given
	for ps, n := range wdp.Ranked(all) {
		if gs = append(gs, given{ps, n}); len(gs) == most {
			break
		}
	}
	return gs
}

// paid is what Pays tells, each pick as an assignment of its own with what it pays.
func paid(all [][]api.Bid) []given {
	var gs []given
	for p, n := range wdp.Pays(all) {
		gs = append(gs, given{[]api.Pick{p}, n})
	}
	return gs
}

// paysOf is what Pays tells, by the document's word.
func paysOf(all [][]api.Bid) []given {
	first := firstOf(all, every)
	var gs []given
	for _, p := range first.picks {
		gs = append(gs, given{[]api.Pick{p}, firstOf(lacking(all, p.Bidder), every).total - (first.total - p.Price)})
	}
	return gs
}

// cloneOf are lists anew.
func cloneOf(all [][]api.Bid) [][]api.Bid {
	other := slices.Clone(all)
	for i := range other {
		other[i] = slices.Clone(other[i])
	}
	return other
}

// sameGiven tells whether two assignments are the same.
func sameGiven(a, b given) bool { return a.total == b.total && slices.Equal(a.picks, b.picks) }

// checkGiven: an assignment is what it should be.
func checkGiven(t *testing.T, what string, all [][]api.Bid, got, want given) {
	t.Helper()
	if !sameGiven(got, want) {
		t.Fatalf("%s of %v: %v, not %v", what, all[:min(len(all), 12)], got, want)
	}
}

// checkAll: assignments are what they should be.
func checkAll(t *testing.T, what string, all [][]api.Bid, got, want []given) {
	t.Helper()
	for i := range min(len(got), len(want)) {
		if !sameGiven(got[i], want[i]) {
			t.Fatalf("%s of %v: number %d is %v, not %v", what, all[:min(len(all), 12)], i, got[i], want[i])
		}
	}
	if len(got) != len(want) {
		t.Fatalf("%s of %v: %d, not %d", what, all[:min(len(all), 12)], len(got), len(want))
	}
}

// checkSum: a number is what it should be.
func checkSum(t *testing.T, what string, all [][]api.Bid, got, want int64) {
	t.Helper()
	if got != want {
		t.Fatalf("%s of %v: %d, not %d", what, all[:min(len(all), 12)], got, want)
	}
}

// solved is what Solve tells.
func solved(all [][]api.Bid) given {
	ps, n := wdp.Solve(all)
	return given{ps, n}
}

// soon fails a test in which a call doesn't end.
func soon(t *testing.T, what string, do func()) {
	t.Helper()
	done := make(chan struct{})
	go func() {
		defer close(done)
		do()
	}()
	select {
	case <-done:
	case <-time.After(60 * time.Second):
		t.Fatalf("%s doesn't end", what)
	}
}

// oneOf is a bid at random: of few items or of many, of few prices or of many, right or not.
func oneOf(rnd *rand.Rand, items int, most int64) api.Bid {
	b := api.Bid{Set: rnd.Uint64() >> (64 - items), Price: rnd.Int64N(most + 1)}
	for rnd.IntN(3) > 0 {
		b.Set &= rnd.Uint64()
	}
	switch rnd.IntN(25) {
	case 0:
		b.Set = 0
	case 1:
		b.Price = []int64{-1, math.MinInt64, -big, big + 1, math.MaxInt64}[rnd.IntN(5)]
	case 2:
		b.Price = []int64{0, 1, big - 1, big}[rnd.IntN(4)]
	}
	return b
}

// salesOf are bids of bidders at random, few enough that all assignments can be tried.
func salesOf(seed uint64, n, bidders, most int) [][][]api.Bid {
	rnd := rand.New(rand.NewPCG(seed, 16))
	var alls [][][]api.Bid
	for range n {
		all := make([][]api.Bid, rnd.IntN(bidders+1))
		items, price := 1+rnd.IntN(8), int64(rnd.IntN(12))
		if rnd.IntN(3) == 0 {
			items = 1 + rnd.IntN(64)
		}
		if rnd.IntN(4) == 0 {
			price = big
		}
		for i := range all {
			for range rnd.IntN(most + 1) {
				all[i] = append(all[i], oneOf(rnd, items, price))
			}
		}
		alls = append(alls, all)
	}
	return alls
}

// P16.1: the document's examples.
func TestExamples(t *testing.T) {
	all := [][]api.Bid{bids(3, 5), bids(1, 3), bids(2, 3)}
	checkGiven(t, "Solve", all, solved(all), given{picks(1, 1, 3, 2, 2, 3), 6})
	all = [][]api.Bid{bids(1, 4), bids(1, 4)}
	checkGiven(t, "Solve", all, solved(all), given{picks(0, 1, 4), 4})
}

// P16.1, P16.2: the first best assignment by hand: having a bid comes ahead of
// having none, an earlier clean bid ahead of a later one, whatever order they
// were handed in by; of what isn't right, or is beaten, nothing is taken.
func TestSolveByHand(t *testing.T) {
	for _, r := range []struct {
		all  [][]api.Bid
		want given
	}{
		{nil, given{}}, {[][]api.Bid{}, given{}}, {[][]api.Bid{nil, {}, nil}, given{}}, {[][]api.Bid{{}}, given{}},
		{[][]api.Bid{bids(1, 0)}, given{picks(0, 1, 0), 0}},
		{[][]api.Bid{nil, bids(1, 0), nil, bids(1, 0)}, given{picks(1, 1, 0), 0}},
		{[][]api.Bid{bids(1, 0), bids(1, 0), bids(2, 0)}, given{picks(0, 1, 0, 2, 2, 0), 0}},
		{[][]api.Bid{bids(3, 6), bids(1, 3), bids(2, 3)}, given{picks(0, 3, 6), 6}},
		{[][]api.Bid{bids(1, 3), bids(2, 3), bids(3, 6)}, given{picks(0, 1, 3, 1, 2, 3), 6}},
		{[][]api.Bid{bids(1, 3), bids(3, 6), bids(2, 3)}, given{picks(0, 1, 3, 2, 2, 3), 6}},
		{[][]api.Bid{bids(2, 4, 1, 4)}, given{picks(0, 1, 4), 4}},
		{[][]api.Bid{bids(2, 4, 1, 4), bids(1, 4)}, given{picks(0, 2, 4, 1, 1, 4), 8}},
		{[][]api.Bid{bids(6, 4, 1, 4), bids(8, 1)}, given{picks(0, 1, 4, 1, 8, 1), 5}},
		{[][]api.Bid{bids(4, 5, 3, 5), bids(4, 2, 3, 2)}, given{picks(0, 4, 5, 1, 3, 2), 7}},
		{[][]api.Bid{bids(3, 5, 4, 5), bids(1, 2, 4, 2)}, given{picks(0, 4, 5, 1, 1, 2), 7}},
		{[][]api.Bid{bids(1, 2, 1, 9, 1, 5)}, given{picks(0, 1, 9), 9}},
		{[][]api.Bid{bids(1, 9, 3, 9, 5, 10)}, given{picks(0, 5, 10), 10}},
		{[][]api.Bid{bids(0, 9, 4, -1), bids(4, 1)}, given{picks(1, 4, 1), 1}},
		{[][]api.Bid{bids(1, big+1, 2, math.MinInt64, 4, math.MaxInt64, 0, 3)}, given{}},
		{[][]api.Bid{bids(1, big), bids(2, big), bids(3, big)}, given{picks(0, 1, big, 1, 2, big), 2 * big}},
		{[][]api.Bid{bids(-1, 5), bids(math.MinInt64, 5), bids(1, 1)}, given{picks(1, math.MinInt64, 5, 2, 1, 1), 6}},
		{[][]api.Bid{bids(1, 5), bids(1, 5, 2, 1), bids(2, 0)}, given{picks(0, 1, 5, 1, 2, 1), 6}},
		{[][]api.Bid{bids(1, 1, 2, 1), bids(1, 0, 2, 0), bids(4, 7)}, given{picks(0, 1, 1, 1, 2, 0, 2, 4, 7), 8}},
	} {
		checkGiven(t, "Solve", r.all, solved(r.all), r.want)
		checkGiven(t, "the first one of Ranked", r.all, gather(r.all, 1)[0], r.want)
		checkSum(t, "Total", r.all, wdp.Total(r.all, every), r.want.total)
	}
}

// P16.1: the greatest total within items, and of the other bidders, by hand.
func TestTotalsByHand(t *testing.T) {
	all := [][]api.Bid{bids(3, 5), bids(1, 3, 8, 2), nil, bids(2, 4)}
	for items, want := range map[uint64]int64{0: 0, 1: 3, 2: 4, 3: 7, 8: 2, 9: 3, 10: 6, 11: 7, 4: 0, every: 7, every - 1: 6, every - 2: 3, every - 3: 2, 1 << 63: 0} {
		checkSum(t, "Total", all, wdp.Total(all, items), want)
	}
	for bidder, want := range map[int]int64{0: 7, 1: 5, 2: 7, 3: 7, 4: 7, -1: 7, math.MinInt: 7, math.MaxInt: 7, 63: 7, 64: 7} {
		checkSum(t, "Without", all, wdp.Without(all, bidder), want)
	}
	// A bid that is beaten by one outside of the items counts within them no more.
	all = [][]api.Bid{bids(1, 3, 3, 2, 2, 1)}
	checkSum(t, "Total", all, wdp.Total(all, 3), 3)
	checkSum(t, "Total", all, wdp.Total(all, 2), 1)
	for _, none := range [][][]api.Bid{nil, {}, {nil}, {bids(0, 5)}} {
		checkSum(t, "Total", none, wdp.Total(none, every), 0)
		checkSum(t, "Without", none, wdp.Without(none, 0), 0)
		checkAll(t, "Ranked", none, gather(none, -1), []given{{}})
		checkAll(t, "Pays", none, paid(none), nil)
	}
}

// P16.1: which assignment comes ahead, by hand: one that isn't, of clean bids, counts as an empty one.
func TestBetterByHand(t *testing.T) {
	all := [][]api.Bid{bids(3, 5, 1, 2), bids(2, 3, 1, 3, 6, 1), bids(4, 0)}
	none, first := picks(), picks(0, 3, 5)
	for i, r := range []struct {
		a, b []api.Pick
		want int
	}{
		{none, nil, 0}, {first, first, 0}, {first, none, -1}, {none, first, 1},
		{picks(0, 1, 2, 1, 2, 3), first, -1}, {first, picks(0, 1, 2, 1, 2, 3), 1}, // as much, by an earlier bid
		{picks(1, 1, 3), picks(1, 2, 3), -1}, {picks(1, 2, 3), picks(1, 1, 3), 1},
		{picks(0, 3, 5, 2, 4, 0), first, -1}, {first, picks(0, 3, 5, 2, 4, 0), 1}, {picks(2, 4, 0), none, -1},
		{picks(0, 1, 2), picks(1, 1, 3), 1}, {picks(1, 1, 3), picks(0, 1, 2), -1},
		{picks(0, 1, 2, 1, 2, 3, 2, 4, 0), picks(0, 1, 2, 1, 2, 3), -1},
		// no assignments: two of one item, falling bidders, one twice, nobody's bids, beaten ones, other prices
		{picks(0, 3, 5, 1, 2, 3), none, 0}, {picks(1, 2, 3, 0, 1, 2), none, 0}, {picks(0, 1, 2, 0, 1, 2), none, 0}, {picks(-1, 3, 5), none, 0}, {picks(3, 3, 5), none, 0}, {picks(math.MaxInt64, 3, 5), none, 0},
		{picks(1, 6, 1), none, 0}, {picks(0, 3, 6), none, 0}, {picks(0, 3, 4), none, 0}, {picks(0, 7, 5), none, 0}, {picks(0, 0, 0), none, 0}, {picks(1, 6, 1), picks(0, 3, 6), 0},
		{picks(0, 3, 6), first, 1}, {first, picks(1, 6, 1), -1}, {picks(2, 4, 0), picks(0, 3, 6), -1}, {picks(1, 6, 1), picks(2, 4, 0), 1},
	} {
		if got := wdp.Better(all, r.a, r.b); got != r.want {
			t.Errorf("%d: Better is %d, not %d", i, got, r.want)
		}
	}
	if wdp.Better(nil, first, none) != 0 || wdp.Better([][]api.Bid{bids(3, big+1)}, picks(0, 3, big+1), nil) != 0 {
		t.Error("Better of no clean bids")
	}
}

// P16.1, P16.2: all assignments in order, and what picks pay, by hand.
func TestRankedByHand(t *testing.T) {
	all := [][]api.Bid{bids(3, 5), bids(1, 3), bids(2, 4)}
	checkAll(t, "Ranked", all, gather(all, -1), []given{{picks(1, 1, 3, 2, 2, 4), 7}, {picks(0, 3, 5), 5}, {picks(2, 2, 4), 4}, {picks(1, 1, 3), 3}, {nil, 0}})
	checkAll(t, "Pays", all, paid(all), []given{{picks(1, 1, 3), 1}, {picks(2, 2, 4), 2}})
	all = [][]api.Bid{bids(2, 0, 1, 0), nil, bids(1, 0)}
	checkAll(t, "Ranked", all, gather(all, -1), []given{{picks(0, 1, 0), 0}, {picks(0, 2, 0, 2, 1, 0), 0}, {picks(0, 2, 0), 0}, {picks(2, 1, 0), 0}, {nil, 0}})
}

// P16.1, P16.2: everything, of bids at random: all assignments tried.
func TestAtRandom(t *testing.T) {
	rnd := rand.New(rand.NewPCG(2, 16))
	for _, all := range salesOf(1, 1500, 5, 5) {
		ranked := rankedOf(all)
		checkGiven(t, "Solve", all, solved(all), ranked[0])
		checkAll(t, "Ranked", all, gather(all, -1), ranked)
		checkAll(t, "Pays", all, paid(all), paysOf(all))
		for range 4 {
			items := rnd.Uint64() >> rnd.IntN(64)
			checkSum(t, "Total", all, wdp.Total(all, items), firstOf(all, items).total)
			bidder := rnd.IntN(8) - 1
			checkSum(t, "Without", all, wdp.Without(all, bidder), firstOf(lacking(all, bidder), every).total)
		}
		for range 20 {
			i, j := rnd.IntN(len(ranked)), rnd.IntN(len(ranked))
			if got, want := wdp.Better(all, ranked[i].picks, ranked[j].picks), min(max(i-j, -1), 1); got != want {
				t.Fatalf("Better of %v, %v and %v is %d, not %d", all, ranked[i], ranked[j], got, want)
			}
		}
	}
}

// P16.1, P16.2: the first best assignment, of more bids at random, of few items and of many.
func TestSolveAtRandom(t *testing.T) {
	for _, all := range salesOf(3, 400, 8, 5) {
		first := firstOf(all, every)
		checkGiven(t, "Solve", all, solved(all), first)
		checkGiven(t, "the first one of Ranked", all, gather(all, 1)[0], first)
		checkSum(t, "Total", all, wdp.Total(all, every), first.total)
	}
}

// P16.1: of more than 64 lists those behind the 64th don't count.
func TestManyLists(t *testing.T) {
	all := slices.Repeat([][]api.Bid{nil}, 70)
	all[62], all[63], all[64], all[69] = bids(3, 5), bids(1, 3), bids(2, 9), bids(4, 9)
	counting := all[:64]
	first := given{picks(62, 3, 5), 5}
	checkGiven(t, "Solve", all, solved(all), first)
	checkAll(t, "Ranked", all, gather(all, -1), []given{first, {picks(63, 1, 3), 3}, {nil, 0}})
	checkAll(t, "Pays", all, paid(all), []given{{picks(62, 3, 5), 3}})
	checkSum(t, "Total", all, wdp.Total(all, every), 5)
	checkSum(t, "Without", all, wdp.Without(all, 62), 3)
	checkSum(t, "Without", all, wdp.Without(all, 64), 5)
	if wdp.Better(all, picks(64, 2, 9), first.picks) != wdp.Better(counting, nil, first.picks) {
		t.Error("Better counts the 65th list")
	}
	all = slices.Repeat([][]api.Bid{bids(1, 1)}, 300)
	checkGiven(t, "Solve", all, solved(all), given{picks(0, 1, 1), 1})
	if got := gather(all, -1); len(got) != 65 {
		t.Errorf("%d assignments, not 65", len(got))
	}
}

// P16.3: with one more bidder, or bid, the greatest total is no less.
func TestMore(t *testing.T) {
	rnd := rand.New(rand.NewPCG(4, 16))
	for _, all := range salesOf(5, 400, 9, 6) {
		total := wdp.Total(all, every)
		more := append(cloneOf(all), []api.Bid{oneOf(rnd, 1+rnd.IntN(64), big)})
		if wdp.Total(more, every) < total {
			t.Fatalf("with one more bidder less: %v", more)
		}
		more = cloneOf(more)
		i := rnd.IntN(len(more))
		more[i] = append(more[i], oneOf(rnd, 1+rnd.IntN(8), 12))
		if _, n := wdp.Solve(more); n < total || n < wdp.Without(more, i) {
			t.Fatalf("with one more bid less: %v", more)
		}
	}
}

// P16.1: what goes on makes no more than is asked for, may be gone over again,
// and on the way; however many assignments there are behind.
func TestGoesOn(t *testing.T) {
	all := [][]api.Bid{bids(3, 5, 8, 5), bids(1, 3), bids(2, 4)}
	whole, pays := rankedOf(all), paysOf(all)
	for n := range whole {
		checkAll(t, "some of Ranked", all, gather(all, n+1), whole[:n+1])
	}
	ranked, paying := wdp.Ranked(all), wdp.Pays(all)
	for range 3 {
		n := 0
		for ps, total := range ranked {
			checkGiven(t, "Ranked again", all, given{ps, total}, whole[n])
			k := 0
			for ps, total := range ranked {
				if checkGiven(t, "Ranked within", all, given{ps, total}, whole[k]); k == n {
					break
				}
				k++
			}
			n++
		}
		n = 0
		for p, total := range paying {
			checkGiven(t, "Pays again", all, given{[]api.Pick{p}, total}, pays[n])
			for p, total := range paying {
				checkGiven(t, "Pays within", all, given{[]api.Pick{p}, total}, pays[0])
				break
			}
			n++
		}
		if n != len(pays) {
			t.Errorf("Pays told %d", n)
		}
	}
	many := slices.Repeat([][]api.Bid{bids(1, 5, 2, 5, 4, 5, 8, 5, 16, 5, 32, 5, 64, 5, 128, 5)}, 64)
	soon(t, "Ranked", func() {
		for i, g := range gather(many, 100) {
			if g.total != 40 || len(g.picks) != 8 || i == 0 && g.picks[7] != (api.Pick{Bidder: 7, Set: 128, Price: 5}) {
				t.Errorf("number %d is %v", i, g)
			}
		}
	})
}

// P16.1: bids may be written over behind the call, and on the way.
func TestWrittenOver(t *testing.T) {
	all := [][]api.Bid{bids(3, 5), bids(1, 3), bids(2, 4)}
	whole, pays := rankedOf(all), paysOf(all)
	wipe := func(all [][]api.Bid) {
		for i := range all {
			clear(all[i])
			all[i] = bids(1, 100)
		}
	}
	own := cloneOf(all)
	ranked, paying := wdp.Ranked(own), wdp.Pays(own)
	wipe(own)
	n := 0
	for ps, total := range ranked {
		checkGiven(t, "Ranked, written over behind it", all, given{ps, total}, whole[n])
		n++
	}
	own = cloneOf(all)
	n = 0
	for ps, total := range wdp.Ranked(own) {
		wipe(own)
		checkGiven(t, "Ranked, written over on the way", all, given{ps, total}, whole[n])
		clear(ps) // what was told may be written over as well
		n++
	}
	n = 0
	for p, total := range paying {
		checkGiven(t, "Pays, written over behind it", all, given{[]api.Pick{p}, total}, pays[n])
		n++
	}
	own = cloneOf(all)
	n = 0
	for p, total := range wdp.Pays(own) {
		wipe(own)
		checkGiven(t, "Pays, written over on the way", all, given{[]api.Pick{p}, total}, pays[n])
		n++
	}
}

// P16.4: arguments stay, the memory behind a list's length too.
func TestArgumentsStay(t *testing.T) {
	for _, all := range salesOf(6, 200, 6, 5) {
		rows := make([][]api.Bid, len(all), len(all)+2)
		for i, bs := range all {
			rows[i] = append(append(make([]api.Bid, 0, len(bs)+3), bs...), bids(1, 77, 2, 78)...)[:len(bs)]
		}
		spare := rows[:cap(rows)]
		spare[len(rows)], spare[len(rows)+1] = bids(1, 5), bids(2, 6)
		first := wdp.Ranked(rows)
		a := picks(0, 1, 1, 1, 2, 2, 2, 3, 3)
		b := slices.Clone(a)
		wdp.Solve(rows)
		wdp.Total(rows, 85)
		wdp.Without(rows, 1)
		wdp.Better(rows, a[:2], b[:1])
		for range first {
		}
		for range wdp.Pays(rows) {
		}
		for i, bs := range rows {
			if !slices.Equal(bs, all[i]) || !slices.Equal(bs[:len(bs)+2][len(bs):], bids(1, 77, 2, 78)) {
				t.Fatalf("list %d was %v, is %v", i, all[i], bs[:cap(bs)])
			}
		}
		if !slices.Equal(spare[len(rows)], bids(1, 5)) || !slices.Equal(spare[len(rows)+1], bids(2, 6)) || !slices.Equal(a, picks(0, 1, 1, 1, 2, 2, 2, 3, 3)) || !slices.Equal(a, b) {
			t.Fatal("what is behind the lists, or the picks, changed")
		}
	}
}

// P16.4: answers are new memory, spare room too.
func TestNewMemory(t *testing.T) {
	all := [][]api.Bid{bids(3, 5, 8, 1), bids(1, 3), bids(2, 4), bids(16, 0)}
	whole := rankedOf(all)
	ps, _ := wdp.Solve(all)
	again, _ := wdp.Solve(all)
	clear(ps[:cap(ps)])
	if !slices.Equal(again, whole[0].picks) {
		t.Errorf("Solve's answer went with another one: %v", again)
	}
	gs := gather(all, -1)
	for i := range gs {
		clear(gs[i].picks[:cap(gs[i].picks)])
		for k := i + 1; k < len(gs); k++ {
			checkGiven(t, "what Ranked told", all, gs[k], whole[k])
		}
	}
	checkAll(t, "Ranked", all, gather(all, -1), whole)
}
