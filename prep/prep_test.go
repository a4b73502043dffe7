// The tests of layer 14. Above each stands the promise that it holds the program to.
package prep_test

import (
	"iter"
	"math"
	"math/rand/v2"
	"slices"
	"testing"
	"time"

	"saleroom/api"
	"saleroom/prep"
)

const (
	every uint64 = math.MaxUint64 // the set of all items
	big   int64  = 1 << 41        // the greatest price
)

// bids are bids told as sets and prices in turn.
func bids(numbers ...int64) []api.Bid {
	var bs []api.Bid
	for i := 0; i < len(numbers); i += 2 {
		bs = append(bs, api.Bid{Set: uint64(numbers[i]), Price: numbers[i+1]})
	}
	return bs
}

// of are bidders, each of whom bids 1 for each of its sets.
func of(sets ...[]uint64) [][]api.Bid {
	var all [][]api.Bid
	for _, mine := range sets {
		var bs []api.Bid
		for _, s := range mine {
			bs = append(bs, api.Bid{Set: s, Price: 1})
		}
		all = append(all, bs)
	}
	return all
}

// countOf is how many items a set has, found bit by bit.
func countOf(s uint64) int {
	n := 0
	for ; s > 0; s /= 2 {
		n += int(s % 2)
	}
	return n
}

// orderOf is layer 2's order of sets.
func orderOf(a, b uint64) int {
	switch x, y := countOf(a), countOf(b); {
	case x < y || x == y && a < b:
		return -1
	case a != b:
		return 1
	}
	return 0
}

// liesWithin tells whether all items of a are in b.
func liesWithin(a, b uint64) bool { return a|b == b }

// isRight tells whether a bid is right, as the document tells it.
func isRight(b api.Bid) bool { return b.Set != 0 && b.Price >= 0 && b.Price <= big }

// cleanOf is a bidder's clean bids, step by step as the document tells it.
func cleanOf(bs []api.Bid) []api.Bid {
	most := map[uint64]int64{}
	for _, b := range bs {
		if isRight(b) {
			most[b.Set] = max(most[b.Set], b.Price)
		}
	}
	var got []api.Bid
	for s, v := range most {
		beaten := false
		for other, w := range most {
			beaten = beaten || other != s && liesWithin(other, s) && w >= v
		}
		if !beaten {
			got = append(got, api.Bid{Set: s, Price: v})
		}
	}
	slices.SortFunc(got, func(a, b api.Bid) int { return orderOf(a.Set, b.Set) })
	return got
}

// isClean tells whether a bidder's bids are clean, by the document's word.
func isClean(bs []api.Bid) bool {
	for i, a := range bs {
		if !isRight(a) || i > 0 && orderOf(bs[i-1].Set, a.Set) >= 0 {
			return false
		}
		for j, b := range bs {
			if i != j && liesWithin(a.Set, b.Set) && a.Price >= b.Price {
				return false
			}
		}
	}
	return true
}

// placed is a bid and its place.
type placed struct {
	at  int
	bid api.Bid
}

// freeOf are the bids within the free items, with their places.
func freeOf(bs []api.Bid, free uint64) []placed {
	var got []placed
	for i, b := range bs {
		if liesWithin(b.Set, free) {
			got = append(got, placed{i, b})
		}
	}
	return got
}

// gather is all that Free tells.
func gather(seq iter.Seq2[int, api.Bid]) []placed {
	var got []placed
	for i, b := range seq {
		got = append(got, placed{i, b})
	}
	return got
}

// bestOf is the first bid of the greatest price among those within the free items.
func bestOf(bs []api.Bid, free uint64) (api.Bid, bool) {
	some := freeOf(bs, free)
	for _, p := range some {
		if !slices.ContainsFunc(some, func(q placed) bool { return q.bid.Price > p.bid.Price }) {
			return p.bid, true
		}
	}
	return api.Bid{}, false
}

// worth is what right bids give for free items at most, and whether there is one for them.
func worth(bs []api.Bid, free uint64) (int64, bool) {
	var most int64
	found := false
	for _, b := range bs {
		if isRight(b) && liesWithin(b.Set, free) {
			most, found = max(most, b.Price), true
		}
	}
	return most, found
}

// unionOf is all items of a bidder's bids.
func unionOf(bs []api.Bid) uint64 {
	var u uint64
	for _, b := range bs {
		u |= b.Set
	}
	return u
}

// groupsOf are the groups, as the document tells them: each bidder gets to what it belongs to by way of a third, till nothing is new.
func groupsOf(all [][]api.Bid) [][]int {
	near := make([][]bool, len(all))
	for i := range all {
		near[i] = make([]bool, len(all))
		for j := range all {
			near[i][j] = len(all[i]) > 0 && (i == j || unionOf(all[i])&unionOf(all[j]) != 0)
		}
	}
	for k := range all {
		for i := range all {
			for j := range all {
				near[i][j] = near[i][j] || near[i][k] && near[k][j]
			}
		}
	}
	var groups [][]int
	for i := range all {
		var group []int
		for j, is := range near[i] {
			if is {
				group = append(group, j)
			}
		}
		if len(group) > 0 && group[0] == i {
			groups = append(groups, group)
		}
	}
	return groups
}

// oneOf is a bid at random: of few items or of many, of few prices or of many, right or not.
func oneOf(rnd *rand.Rand, items int, most int64) api.Bid {
	b := api.Bid{Set: rnd.Uint64() >> (64 - items), Price: rnd.Int64N(most + 1)}
	if rnd.IntN(3) == 0 {
		b.Set &= rnd.Uint64()
	}
	switch rnd.IntN(20) {
	case 0:
		b.Set = 0
	case 1:
		b.Price = []int64{-1, math.MinInt64, -big, big + 1, math.MaxInt64}[rnd.IntN(5)]
	case 2:
		b.Price = []int64{0, big - 1, big}[rnd.IntN(3)]
	}
	return b
}

// lists are a bidder's bids at random, by hand, and at their ends.
func lists() [][]api.Bid {
	ls := [][]api.Bid{nil, {}, {{}}, make([]api.Bid, 100), bids(1, 1), bids(1, 0), bids(0, 1), bids(-1, big), bids(1, big+1), bids(1, -1), bids(1, math.MaxInt64, 1, math.MinInt64), bids(1, 0, 1, 0)}
	rnd := rand.New(rand.NewPCG(1, 14))
	for n := range 400 {
		var bs []api.Bid
		items, most := 1+rnd.IntN(6), int64(rnd.IntN(12))
		if n%5 == 0 {
			items, most = 1+rnd.IntN(64), big
		}
		for range rnd.IntN(1 + n/8) {
			bs = append(bs, oneOf(rnd, items, most))
		}
		ls = append(ls, bs)
	}
	return ls
}

// bidders are bids of bidders at random: of few bids, so that some belong together and some don't.
func bidders() [][][]api.Bid {
	alls := [][][]api.Bid{nil, {}, {nil}, {nil, {}, nil}, {{{}}, {{}}, nil, {{}}}, {bids(1, 1)}, lists()}
	rnd := rand.New(rand.NewPCG(2, 14))
	for n := range 400 {
		all := make([][]api.Bid, rnd.IntN(14))
		items := 1 + rnd.IntN(64)
		for i := range all {
			for range rnd.IntN(4) {
				b := oneOf(rnd, items, 9)
				if n%2 == 0 { // of two items at most
					b.Set = (1<<rnd.IntN(items) | 1<<rnd.IntN(items)) & b.Set
				}
				all[i] = append(all[i], b)
			}
		}
		alls = append(alls, all)
	}
	return alls
}

// setsFor are sets to hold against a list: those of its bids, with an item more and less, others, and the ends.
func setsFor(rnd *rand.Rand, bs []api.Bid) []uint64 {
	ss := []uint64{0, 1, 2, 3, every, every - 1, every >> 1, 1 << 63, rnd.Uint64()}
	for range min(len(bs), 6) {
		s := bs[rnd.IntN(len(bs))].Set
		ss = append(ss, s, s&(s-1), s|1<<rnd.IntN(64), s|bs[rnd.IntN(len(bs))].Set, ^s)
	}
	for s := range uint64(64) {
		ss = append(ss, s)
	}
	return ss
}

// checkList: a list is what it should be.
func checkList[T comparable](t *testing.T, what string, got, want []T) {
	t.Helper()
	if !slices.Equal(got, want) {
		t.Errorf("%s: %v, not %v", what, got, want)
	}
}

// checkLists: lists are what they should be.
func checkLists[T comparable](t *testing.T, what string, got, want [][]T) {
	t.Helper()
	if !slices.EqualFunc(got, want, slices.Equal[[]T]) {
		t.Errorf("%s: %v, not %v", what, got, want)
	}
}

// cloneOf are lists anew.
func cloneOf(all [][]api.Bid) [][]api.Bid {
	other := slices.Clone(all)
	for i := range other {
		other[i] = slices.Clone(other[i])
	}
	return other
}

// overwrite writes over a list, the memory behind its length too.
func overwrite(bs []api.Bid) {
	bs = bs[:cap(bs)]
	for i := range bs {
		bs[i] = api.Bid{Set: 1 << 40, Price: 77}
	}
}

// overwriteAll writes over lists, the memory behind their lengths too.
func overwriteAll(all [][]api.Bid) {
	all = all[:cap(all)]
	for i := range all {
		overwrite(all[i])
		all[i] = bids(math.MaxInt64, 77)
	}
}

// soon fails a test in which a call doesn't end.
func soon(t *testing.T, what string, do func()) {
	t.Helper()
	done := make(chan struct{})
	go func() {
		defer close(done)
		do()
	}()
	select {
	case <-done:
	case <-time.After(30 * time.Second):
		t.Fatalf("%s doesn't end", what)
	}
}

// P14.1: the document's examples.
func TestExamples(t *testing.T) {
	checkList(t, "One", prep.One(bids(1, 5, 3, 5, 2, 3)), bids(1, 5, 2, 3))
	groups := slices.Collect(prep.Groups(of([]uint64{3}, []uint64{6}, []uint64{16})))
	checkLists(t, "Groups", groups, [][]int{{0, 1}, {2}})
}

// P14.1: a bid is right, if its set has an item and its price is from 0 to 2^41.
func TestRight(t *testing.T) {
	for _, s := range []uint64{0, 1, 2, 3, 1 << 31, 1 << 32, 1 << 63, every} {
		for v, right := range map[int64]bool{
			math.MinInt64: false, -big: false, -1: false, 0: true, 1: true, 2: true, 1<<31 - 1: true, 1 << 31: true, 1 << 32: true,
			1 << 40: true, 1<<40 + 1: true, big - 1: true, big: true, big + 1: false, 2 * big: false, 1<<63 - 1: false, 1<<62 + 5: false,
		} {
			if got := prep.Right(api.Bid{Set: s, Price: v}); got != (right && s != 0) {
				t.Errorf("Right of %b, %d is %v", s, v, got)
			}
		}
	}
}

// P14.1: clean bids by hand; a price of 0 is right, too.
func TestOneByHand(t *testing.T) {
	for _, r := range []struct{ bs, want []api.Bid }{
		{nil, nil}, {[]api.Bid{}, nil}, {bids(0, 5), nil}, {bids(1, -1, 2, big+1, 4, math.MinInt64), nil}, {bids(1, 5), bids(1, 5)}, {bids(1, 0), bids(1, 0)}, {bids(1, 0, 1, 0), bids(1, 0)},
		{bids(1, 0, 3, 0), bids(1, 0)}, {bids(3, 0, 1, 0), bids(1, 0)}, {bids(1, 0, 2, 0, 3, 0), bids(1, 0, 2, 0)}, {bids(1, 0, 3, 1), bids(1, 0, 3, 1)}, {bids(1, 1, 3, 0), bids(1, 1)},
		{bids(1, 5, 3, 5, 2, 3, 2, 2), bids(1, 5, 2, 3)}, {bids(3, 5, 1, 5, 2, 0, 2, 3, 0, 9, 4, -1, 7, big+1), bids(1, 5, 2, 3)},
		{bids(1, 5, 3, 6), bids(1, 5, 3, 6)}, {bids(3, 6, 1, 5), bids(1, 5, 3, 6)}, {bids(1, 5, 3, 4), bids(1, 5)},
		{bids(2, 3, 2, 2), bids(2, 3)}, {bids(2, 2, 2, 3), bids(2, 3)}, {bids(2, 3, 2, big+1), bids(2, 3)}, {bids(2, 3, 2, -3), bids(2, 3)}, {bids(2, -3, 2, 0), bids(2, 0)},
		{bids(3, 1, 4, 1, 5, 1), bids(4, 1, 3, 1)}, // {2} stands ahead of {0,1}, and within {0,2}
		{bids(7, 1, 6, 1, 5, 1, 3, 1), bids(3, 1, 5, 1, 6, 1)},
		{bids(7, 9, 3, 5, 6, 9, 1, 5, 2, 1), bids(1, 5, 2, 1, 6, 9)},
		{bids(1, 2, 3, 2, 7, 3, 15, 3), bids(1, 2, 7, 3)}, // what is left out for one that is left out itself
		{bids(8, big, 9, big), bids(8, big)}, {bids(8, big-1, 9, big), bids(8, big-1, 9, big)},
		{bids(0, 9, 3, 6), bids(3, 6)}, {bids(1, -5, 3, 1), bids(3, 1)}, {bids(1, big+1, 3, 1), bids(3, 1)},
		{bids(math.MinInt64, 1, 1<<62, 1, 1, 1), bids(1, 1, 1<<62, 1, math.MinInt64, 1)},
	} {
		checkList(t, "One", prep.One(r.bs), r.want)
		checkList(t, "One of clean ones", prep.One(r.want), r.want)
	}
}

// P14.1: the clean bids of each bidder, at its place, whoever else there is.
func TestCleanByHand(t *testing.T) {
	all := [][]api.Bid{bids(3, 5, 1, 5), nil, bids(0, 1), bids(1, 5), {}, bids(3, 4)}
	checkLists(t, "Clean", prep.Clean(all), [][]api.Bid{bids(1, 5), nil, nil, bids(1, 5), nil, bids(3, 4)})
	for _, n := range []int{0, 1, 64, 65, 1000} {
		if got := prep.Clean(make([][]api.Bid, n)); len(got) != n || prep.Count(got) != 0 {
			t.Errorf("Clean of %d bidders without bids is %v", n, got)
		}
	}
	if got := prep.Clean(nil); len(got) != 0 {
		t.Errorf("Clean of nobody is %v", got)
	}
}

// P14.1, P14.2: clean bids as the document tells them, of lists in any order.
func TestCleanAtRandom(t *testing.T) {
	rnd := rand.New(rand.NewPCG(3, 14))
	all := lists()
	var want [][]api.Bid
	for _, bs := range all {
		want = append(want, cleanOf(bs))
	}
	checkLists(t, "Clean", prep.Clean(all), want)
	for i, bs := range all {
		checkList(t, "One", prep.One(bs), want[i])
		mixed := slices.Clone(bs)
		rnd.Shuffle(len(mixed), func(i, j int) { mixed[i], mixed[j] = mixed[j], mixed[i] })
		checkList(t, "One of another order", prep.One(mixed), want[i])
	}
}

// P14.2: clean bids are clean, cleaned again the same, and any free items give the same.
func TestCleanGivesTheSame(t *testing.T) {
	rnd := rand.New(rand.NewPCG(4, 14))
	all := lists()
	clean := prep.Clean(all)
	checkLists(t, "Clean of clean ones", prep.Clean(clean), clean)
	for i, bs := range clean {
		if !isClean(bs) {
			t.Errorf("%v aren't clean", bs)
		}
		for _, s := range setsFor(rnd, all[i]) {
			price, is := worth(all[i], s)
			if got, ok := prep.Best(bs, s); got.Price != price || ok != is {
				t.Errorf("%b gives %d, %v, of the clean ones %d, %v", s, price, is, got.Price, ok)
			}
		}
	}
}

// P14.1: the best bid by hand: of the same price the first one; of what isn't right, too; of none the zero one and false.
func TestBestByHand(t *testing.T) {
	bs := bids(3, 5, 1, 5, 2, 0, 2, 3, 0, 4, 4, -1, 7, 1<<42, 4, -1, 8, math.MinInt64)
	for i, r := range []struct {
		bs   []api.Bid
		free uint64
		want []api.Bid
	}{
		{nil, every, nil}, {[]api.Bid{}, 0, nil}, {bids(1, 1), 0, nil}, {bids(1, 1), 2, nil}, {bids(3, 1), 1, nil}, {bids(1<<62, 1), every >> 2, nil}, {bids(1, 1), 1, bids(1, 1)},
		{bs, 3, bids(3, 5)}, {bs, 1, bids(1, 5)}, {bs, 2, bids(0, 4)}, {bs, 0, bids(0, 4)}, {bs, 8, bids(0, 4)}, {bs, 7, bids(7, 1<<42)}, {bs, every, bids(7, 1<<42)}, {bs, every - 1, bids(0, 4)}, {bs[5:6], 4, bids(4, -1)},
		{bids(4, -2, 8, -1, 4, -1), 12, bids(8, -1)}, {bids(4, -2, 8, -1), 4, bids(4, -2)}, {bids(8, math.MinInt64), 8, bids(8, math.MinInt64)}, {bids(8, math.MinInt64, 4, math.MinInt64), 12, bids(8, math.MinInt64)},
		{bids(1, 2, 2, 2, 4, 2), 6, bids(2, 2)}, {bids(1, 1, 2, 2, 4, 3), 7, bids(4, 3)}, {bids(1, 3, 2, 2, 4, 1), 7, bids(1, 3)}, {bids(0, 0), 0, bids(0, 0)}, {bids(1, math.MaxInt64, 2, math.MinInt64), 3, bids(1, math.MaxInt64)},
	} {
		got, ok := prep.Best(r.bs, r.free)
		if len(r.want) == 0 && (ok || got != api.Bid{}) || len(r.want) > 0 && (!ok || got != r.want[0]) {
			t.Errorf("%d: Best is %v, %v, not %v", i, got, ok, r.want)
		}
	}
}

// P14.1: the best bid, and those that are free with their places, of lists at random.
func TestBestAndFreeAtRandom(t *testing.T) {
	rnd := rand.New(rand.NewPCG(5, 14))
	for _, bs := range lists() {
		for _, s := range setsFor(rnd, bs) {
			want, is := bestOf(bs, s)
			if got, ok := prep.Best(bs, s); got != want || ok != is {
				t.Errorf("Best of %v, %b is %v, %v, not %v, %v", bs, s, got, ok, want, is)
			}
			checkList(t, "Free", gather(prep.Free(bs, s)), freeOf(bs, s))
		}
	}
}

// P14.1: free bids come in order, with their places, as often as they stand there, as long as more is asked for, once more too.
func TestFree(t *testing.T) {
	bs := bids(3, 5, 8, 5, 1, 5, 2, 0, 9, 1, 2, 3, 0, 9, 4, -1, 3, 5, 7, big+1)
	want := []placed{{0, bs[0]}, {2, bs[2]}, {3, bs[3]}, {5, bs[5]}, {6, bs[6]}, {8, bs[8]}}
	seq := prep.Free(bs, 3)
	for n := range len(want) + 1 {
		var got []placed
		seq(func(i int, b api.Bid) bool {
			if len(got) > n {
				t.Error("Free goes on when no more is asked for")
			}
			got = append(got, placed{i, b})
			return len(got) <= n
		})
		checkList(t, "Free", got, want[:min(n+1, len(want))])
	}
	for range seq {
		checkList(t, "Free within itself", gather(seq), want)
	}
	checkList(t, "Free of nothing", gather(prep.Free(bs, 0)), []placed{{6, bs[6]}})
	checkList(t, "Free of all", gather(prep.Free(bs, every)), freeOf(bs, every))
	checkList(t, "Free of no bids", gather(prep.Free(nil, every)), nil)
}

// P14.1: all items, and how many bids there are: of those that aren't right, too.
func TestUnionAndCount(t *testing.T) {
	for i, r := range []struct {
		all   [][]api.Bid
		union uint64
		count int
	}{
		{nil, 0, 0}, {[][]api.Bid{nil, {}}, 0, 0}, {[][]api.Bid{bids(0, 1)}, 0, 1}, {[][]api.Bid{bids(1, 1, 1, 1), nil, bids(4, 1)}, 5, 3},
		{[][]api.Bid{bids(1, -1, 2, big+1, 0, 7), bids(math.MinInt64, math.MinInt64)}, 1<<63 + 3, 4}, {[][]api.Bid{bids(-1, 0), bids(1, 0)}, every, 2}, {make([][]api.Bid, 100), 0, 0}, {[][]api.Bid{make([]api.Bid, 100), make([]api.Bid, 7)}, 0, 107},
	} {
		if got, n := prep.Union(r.all), prep.Count(r.all); got != r.union || n != r.count {
			t.Errorf("%d: all items are %b, of %d bids, not %b, of %d", i, got, n, r.union, r.count)
		}
	}
	for _, all := range bidders() {
		var union uint64
		count := 0
		for _, bs := range all {
			union |= unionOf(bs)
			count += len(bs)
		}
		if got, n := prep.Union(all), prep.Count(all); got != union || n != count {
			t.Errorf("all items of %v are %b, of %d bids", all, got, n)
		}
	}
}

// P14.1: groups by hand: of bidders that have a bid, also one that isn't right, or has no item.
func TestGroupsByHand(t *testing.T) {
	one := func(s uint64) []uint64 { return []uint64{s} }
	for i, r := range []struct {
		all  [][]api.Bid
		want [][]int
	}{
		{nil, nil}, {make([][]api.Bid, 5), nil}, {of(one(1)), [][]int{{0}}}, {of(nil, one(1), nil), [][]int{{1}}},
		{of(one(1), one(2)), [][]int{{0}, {1}}}, {of(one(1), one(1)), [][]int{{0, 1}}}, {of(one(3), one(6), one(16)), [][]int{{0, 1}, {2}}},
		{of(one(1), one(8), nil, []uint64{2, 4}, one(5), one(16)), [][]int{{0, 3, 4}, {1}, {5}}},
		{of(one(1), one(2), []uint64{1, 2}), [][]int{{0, 1, 2}}},                                      // by a third that comes last
		{of(one(1), one(2), one(4), one(8), one(3), one(12), one(6)), [][]int{{0, 1, 2, 3, 4, 5, 6}}}, // by two, and then by one
		{of(one(8), one(1), one(2), one(4), one(12), one(3)), [][]int{{0, 3, 4}, {1, 2, 5}}},
		{of(one(16), one(1), one(2), one(4), one(7)), [][]int{{0}, {1, 2, 3, 4}}},
		{of(one(4), one(2), one(1), one(3), one(8)), [][]int{{0}, {1, 2, 3}, {4}}},
		{of(one(0), one(0), nil, []uint64{0, 1}, one(1)), [][]int{{0}, {1}, {3, 4}}}, // without items each is alone
		{of([]uint64{0, 0}, one(every), one(1<<63)), [][]int{{0}, {1, 2}}},
		{[][]api.Bid{bids(1, -1), bids(1, math.MaxInt64), bids(2, 5)}, [][]int{{0, 1}, {2}}},
	} {
		checkLists(t, "Groups", slices.Collect(prep.Groups(r.all)), r.want)
		if t.Failed() {
			t.Fatalf("case %d", i)
		}
	}
	var chain, ends, all [][]api.Bid // each one belongs to the next; none belongs to another one
	for i := range 63 {
		chain = append(chain, bids(3<<(62-i), 1))
	}
	for i := range 64 {
		ends = append(ends, bids(1<<i, 1))
	}
	all = append(slices.Clone(ends), bids(-1, 1))
	for what, n := range map[string]int{"chain": len(slices.Collect(prep.Groups(chain))), "whole": len(slices.Collect(prep.Groups(all)))} {
		if n != 1 {
			t.Errorf("of a %s there are %d groups", what, n)
		}
	}
	if n := len(slices.Collect(prep.Groups(ends))); n != 64 {
		t.Errorf("of 64 that have nothing in common there are %d groups", n)
	}
}

// P14.1, P14.3: groups of bidders at random are those that the document tells, with no item in common.
func TestGroupsAtRandom(t *testing.T) {
	for _, all := range bidders() {
		groups := slices.Collect(prep.Groups(all))
		checkLists(t, "Groups", groups, groupsOf(all))
		var taken uint64
		for _, group := range groups {
			var items uint64
			for _, i := range group {
				items |= unionOf(all[i])
			}
			if items&taken != 0 {
				t.Errorf("groups of %v have items in common", all)
			}
			taken |= items
		}
	}
}

// P14.1: groups come as long as more is asked for, and once more too.
func TestGroupsStop(t *testing.T) {
	want := [][]int{{0, 3}, {1}, {4, 5}, {6}}
	seq := prep.Groups(of([]uint64{1}, []uint64{2}, nil, []uint64{5}, []uint64{24}, []uint64{8}, []uint64{0}))
	for n := range len(want) + 1 {
		var got [][]int
		seq(func(group []int) bool {
			if len(got) > n {
				t.Error("Groups goes on when no more is asked for")
			}
			got = append(got, group)
			return len(got) <= n
		})
		checkLists(t, "Groups", got, want[:min(n+1, len(want))])
	}
	for range seq {
		checkLists(t, "Groups within itself", slices.Collect(seq), want)
	}
}

// P1 of the whole: long lists end, too.
func TestLongLists(t *testing.T) {
	rnd := rand.New(rand.NewPCG(6, 14))
	var few, many []api.Bid
	var all [][]api.Bid
	for range 200000 {
		few = append(few, oneOf(rnd, 9, 1000))
		all = append(all, bids(0, 1), bids(1<<rnd.IntN(32), 1))
	}
	for range 5000 {
		many = append(many, oneOf(rnd, 64, big))
	}
	soon(t, "a call of a long list", func() {
		for _, bs := range [][]api.Bid{few, many, slices.Repeat(bids(5, 5), 200000)} {
			checkList(t, "One", prep.One(bs), cleanOf(bs))
			best, _ := prep.Best(bs, every)
			if want, _ := bestOf(bs, every); best != want {
				t.Errorf("Best is %v, not %v", best, want)
			}
		}
		if prep.Count(all) != 400000 || prep.Union(all) != 1<<32-1 || len(prep.Clean(all)) != 400000 {
			t.Error("of many bidders")
		}
		n, last := 0, -1
		for group := range prep.Groups(all) {
			if group[0] <= last {
				t.Error("groups don't rise")
				return
			}
			n, last = n+1, group[0]
		}
		if n != 200032 {
			t.Errorf("of many bidders there are %d groups", n)
		}
	})
}

// P14.4: what is handed in stays, the memory behind the lists' lengths too.
func TestArgumentsStay(t *testing.T) {
	for _, all := range bidders() {
		room := append(cloneOf(all), bids(7, 7))
		for i := range room {
			room[i] = append(room[i], bids(1, 7, 9, 9, 0, 0)...)
		}
		kept := cloneOf(room)
		given := slices.Clone(room)[:len(all)]
		for i := range given {
			given[i] = given[i][:len(all[i])]
		}
		lists := slices.Clone(given)
		prep.Clean(given)
		prep.Union(given)
		prep.Count(given)
		for range prep.Groups(given) {
			continue
		}
		for _, bs := range given {
			prep.One(bs)
			prep.Best(bs, 7)
			for range prep.Free(bs, 7) {
				continue
			}
		}
		checkLists(t, "what was handed in", given, lists)
		checkLists(t, "what was handed in, and behind it", room, kept)
	}
}

// P14.4: what is handed in may be written over behind the call, and on the way.
func TestArgumentsWrittenOver(t *testing.T) {
	bs := bids(1, 5, 2, 6, 3, 9)
	want := freeOf(slices.Clone(bs), 3)
	free, one := prep.Free(bs, 3), prep.One(bs)
	overwrite(bs)
	checkList(t, "One", one, bids(1, 5, 2, 6, 3, 9))
	for range 2 {
		checkList(t, "Free", gather(free), want)
	}
	bs = bids(1, 5, 2, 6, 3, 9)
	var got []placed
	for i, b := range prep.Free(bs, 3) {
		got = append(got, placed{i, b})
		overwrite(bs)
	}
	checkList(t, "Free, written over on the way", got, want)
	for _, all := range bidders() {
		all = cloneOf(all)
		want, cleaned := groupsOf(all), make([][]api.Bid, len(all))
		for i := range all {
			cleaned[i] = cleanOf(all[i])
		}
		groups, clean := prep.Groups(all), prep.Clean(all)
		overwriteAll(all)
		checkLists(t, "Clean", clean, cleaned)
		for range 2 {
			checkLists(t, "Groups", slices.Collect(groups), want)
		}
	}
}

// P14.4: clean bids are new memory each time, spare room too: they share none with an argument, nor with each other.
func TestCleanIsNew(t *testing.T) {
	for _, all := range bidders() {
		for _, given := range [][][]api.Bid{all, prep.Clean(all)} { // what is clean already is answered as new lists, too
			kept := cloneOf(given)
			one, other := prep.Clean(given), prep.Clean(given)
			want := cloneOf(other)
			for i := range one {
				overwrite(one[i])
				checkLists(t, "the lists behind it", one[i+1:], want[i+1:])
			}
			overwriteAll(one)
			for _, bs := range given {
				overwrite(prep.One(bs))
			}
			checkLists(t, "what was handed in", given, kept)
			checkLists(t, "another answer", other, want)
			checkLists(t, "Clean behind it", prep.Clean(given), want)
		}
	}
}

// P14.4: groups are new memory each time, spare room too, however often they are gone over.
func TestGroupsAreNew(t *testing.T) {
	for _, all := range bidders() {
		want := groupsOf(all)
		seq := prep.Groups(all)
		held := slices.Collect(seq)
		for range 2 {
			var got [][]int
			for group := range seq {
				got = append(got, slices.Clone(group))
				group = group[:cap(group)]
				for i := range group {
					group[i] = -5
				}
			}
			checkLists(t, "Groups, each written over", got, want)
		}
		checkLists(t, "Groups that were held", held, want)
		for i, group := range held {
			group = group[:cap(group)]
			for j := range group {
				group[j] = -5
			}
			checkLists(t, "the groups behind it", held[i+1:], want[i+1:])
		}
	}
}

// P2 of the whole: the same lists are answered the same.
func TestAnswersHangOnArguments(t *testing.T) {
	alls := bidders()
	for _, all := range alls {
		clean, groups := prep.Clean(all), slices.Collect(prep.Groups(all))
		for range 5 {
			checkLists(t, "Clean once more", prep.Clean(cloneOf(all)), clean)
			checkLists(t, "Groups once more", slices.Collect(prep.Groups(cloneOf(all))), groups)
		}
	}
}
