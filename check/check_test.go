// The tests of layer 20. Above each stands the promise that it holds the program to.
package check_test

import (
	"iter"
	"math"
	"math/rand/v2"
	"slices"
	"testing"
	"time"

	"saleroom/api"
	"saleroom/check"
	"saleroom/price"
	"saleroom/proxy"
	"saleroom/xor"
)

const (
	every uint64 = math.MaxUint64 // the set of all items
	big   int64  = 1 << 41        // the greatest price, and the greatest ask
)

// bids are bids told as sets and prices in turn.
func bids(numbers ...int64) []api.Bid {
	var bs []api.Bid
	for i := 0; i < len(numbers); i += 2 {
		bs = append(bs, api.Bid{Set: uint64(numbers[i]), Price: numbers[i+1]})
	}
	return bs
}

// entries are entries told as sets and asks in turn.
func entries(numbers ...int64) []api.Entry {
	var es []api.Entry
	for _, b := range bids(numbers...) {
		es = append(es, api.Entry{Set: b.Set, Ask: b.Price})
	}
	return es
}

// store is the store of entries told as sets and asks in turn.
func store(numbers ...int64) *price.Store { return price.Of(entries(numbers...)) }

// askOf is the greatest ask of entries within a set.
func askOf(es []api.Entry, s uint64) int64 {
	var most int64
	for _, e := range es {
		if e.Set|s == s && e.Ask > most {
			most = e.Ask
		}
	}
	return most
}

// oneOf is what is wrong with a bid of which so much is asked, as the document tells it.
func oneOf(b api.Bid, es []api.Entry, items uint64) api.Errno {
	switch {
	case b.Set == 0, b.Set|items != items, b.Price < 0, b.Price > big:
		return api.ErrArg
	case b.Price > askOf(es, b.Set):
		return api.ErrAsk
	}
	return api.OK
}

// allOf is what is wrong with bids, as the document tells it.
func allOf(bs []api.Bid, es []api.Entry, items uint64) api.Errno {
	if len(bs) > 64 {
		return api.ErrMany
	}
	for i, b := range bs {
		if e := oneOf(b, es, items); e != api.OK {
			return e
		}
		for _, other := range bs[:i] {
			if other.Set == b.Set {
				return api.ErrTwice
			}
		}
	}
	return api.OK
}

// keptOf tells whether what was bid last is there still, as the document does.
func keptOf(old, now []api.Bid, es []api.Entry) bool {
	for _, b := range old {
		still := false
		for _, other := range now {
			still = still || other.Set == b.Set && other.Price == b.Price
		}
		if b.Price < askOf(es, b.Set) && !still {
			return false
		}
	}
	return true
}

// told is what is told of a bidder in a report.
type told struct {
	bidder int
	err    api.Errno
}

// reportOf are the bidders whose bids may not be, as the document tells it.
func reportOf(all [][]api.Bid, ess [][]api.Entry, items uint64) []told {
	var got []told
	for i, bs := range all {
		var es []api.Entry
		if i < len(ess) {
			es = ess[i]
		}
		if e := allOf(bs, es, items); e != api.OK {
			got = append(got, told{i, e})
		}
	}
	return got
}

// gather is all that comes.
func gather(seq iter.Seq2[int, api.Errno]) []told {
	var got []told
	for i, e := range seq {
		got = append(got, told{i, e})
	}
	return got
}

// wanted: something is as it should be.
func wanted[T comparable](t *testing.T, what string, got, want T) {
	t.Helper()
	if got != want {
		t.Errorf("%s: %v, not %v", what, got, want)
	}
}

// checkList: a list is what it should be.
func checkList[T comparable](t *testing.T, what string, got, want []T) {
	t.Helper()
	if !slices.Equal(got, want) {
		t.Errorf("%s: %v, not %v", what, got, want)
	}
}

// soon fails a test in which a call doesn't end.
func soon(t *testing.T, what string, do func()) {
	t.Helper()
	done := make(chan struct{})
	go func() {
		defer close(done)
		do()
	}()
	select {
	case <-done:
	case <-time.After(30 * time.Second):
		t.Fatalf("%s doesn't end", what)
	}
}

// entriesAtRandom are entries of few items, of which few may be no entries.
func entriesAtRandom(rnd *rand.Rand) []api.Entry {
	var es []api.Entry
	for range rnd.IntN(8) {
		es = append(es, api.Entry{Set: 1 + rnd.Uint64N(31), Ask: 1 + rnd.Int64N(12)})
	}
	return es
}

// bidsAtRandom are bids of few items, mostly such as may be.
func bidsAtRandom(rnd *rand.Rand, es []api.Entry) []api.Bid {
	var bs []api.Bid
	n := rnd.IntN(7)
	if rnd.IntN(20) == 0 {
		n = 60 + rnd.IntN(8)
	}
	for range n {
		b := api.Bid{Set: 1 + rnd.Uint64N(31)}
		b.Price = max(0, askOf(es, b.Set)-rnd.Int64N(3))
		switch rnd.IntN(24) {
		case 0:
			b.Price += 1 + rnd.Int64N(3)
		case 1:
			b.Set = []uint64{0, every, 1 << 63, 32, 33}[rnd.IntN(5)]
		case 2:
			b.Price = []int64{-1, big, big + 1, math.MinInt64, math.MaxInt64}[rnd.IntN(5)]
		}
		bs = append(bs, b)
	}
	return bs
}

// P20.1: the document's example.
func TestExample(t *testing.T) {
	p := store(1, 5)
	for price, want := range map[int64]api.Errno{5: api.OK, 4: api.OK, 6: api.ErrAsk} {
		b := api.Bid{Set: 1, Price: price}
		wanted(t, "One", check.One(b, p, 1), want)
		wanted(t, "Last", check.Last(b, p), price == 4)
	}
}

// P20.1: one bid: its set and its price ahead of what is asked.
func TestOne(t *testing.T) {
	p := store(1, 5, 6, big, 8, 1)
	for i, r := range []struct {
		s     uint64
		price int64
		items uint64
		want  api.Errno
	}{
		{1, 0, 1, api.OK}, {1, 1, 1, api.OK}, {1, 4, 1, api.OK}, {1, 5, 1, api.OK}, {1, 6, 1, api.ErrAsk}, {1, big, 1, api.ErrAsk},
		{1, big + 1, 1, api.ErrArg}, {1, math.MaxInt64, 1, api.ErrArg}, {1, -1, 1, api.ErrArg}, {1, math.MinInt64, 1, api.ErrArg},
		{6, big, 6, api.OK}, {6, big - 1, 7, api.OK}, {6, big + 1, 7, api.ErrArg}, {7, big, 7, api.OK}, {2, 0, 7, api.OK}, {2, 1, 7, api.ErrAsk},
		{3, 5, 3, api.OK}, {3, 6, 3, api.ErrAsk}, {9, 5, every, api.OK}, {8, 1, 8, api.OK}, {8, 2, 8, api.ErrAsk},
		{0, 0, 0, api.ErrArg}, {0, 0, every, api.ErrArg}, {0, 5, 1, api.ErrArg}, {0, -1, 1, api.ErrArg},
		{1, 0, 0, api.ErrArg}, {1, 5, 2, api.ErrArg}, {3, 5, 1, api.ErrArg}, {3, 5, 2, api.ErrArg}, {3, 6, 1, api.ErrArg}, {every, 0, every - 1, api.ErrArg}, {every, 0, every >> 1, api.ErrArg},
		{every, big, every, api.OK}, {every, big + 1, every, api.ErrArg}, {1 << 63, 0, 1 << 63, api.OK}, {1 << 63, 0, every >> 1, api.ErrArg}, {1 << 63, 1, every, api.ErrAsk},
	} {
		if e := check.One(api.Bid{Set: r.s, Price: r.price}, p, r.items); e != r.want {
			t.Errorf("%d: error %d, not %d", i, e, r.want)
		}
	}
}

// P20.1: of a bid it is asked alone whether its price is less than what is asked.
func TestLast(t *testing.T) {
	p := store(1, 5, 6, big)
	for i, r := range []struct {
		s     uint64
		price int64
		want  bool
	}{
		{1, 0, true}, {1, 4, true}, {1, 5, false}, {1, 6, false}, {1, -1, true}, {1, math.MinInt64, true}, {1, math.MaxInt64, false}, {3, 4, true}, {3, 5, false},
		{2, 0, false}, {2, -1, true}, {0, 0, false}, {0, -1, true}, {0, 1, false}, {6, big - 1, true}, {6, big, false}, {6, big + 1, false}, {every, big - 1, true}, {every, big, false}, {1 << 63, 0, false},
	} {
		if last := check.Last(api.Bid{Set: r.s, Price: r.price}, p); last != r.want {
			t.Errorf("%d: Last is %v", i, last)
		}
	}
}

// many are so many bids of sets of which none stands twice.
func many(n int) []api.Bid {
	var bs []api.Bid
	for i := range n {
		bs = append(bs, api.Bid{Set: uint64(i + 1)})
	}
	return bs
}

// P20.1: all bids: too many ahead of all else, then bid by bid its own error, and behind that whether its set stood ahead.
func TestAll(t *testing.T) {
	p := store(1, 5, 6, 7)
	for i, r := range []struct {
		bs    []api.Bid
		items uint64
		want  api.Errno
	}{
		{nil, 0, api.OK}, {[]api.Bid{}, 0, api.OK}, {nil, every, api.OK}, {bids(1, 5), 1, api.OK}, {bids(1, 5, 2, 0, 6, 7, 3, 4), 7, api.OK}, {bids(6, 1, 1, 1), 7, api.OK},
		{bids(1, 6), 1, api.ErrAsk}, {bids(1, 5), 6, api.ErrArg}, {bids(0, 0), 1, api.ErrArg},
		{bids(1, 5, 1, 5), 1, api.ErrTwice}, {bids(1, 5, 1, 4), 1, api.ErrTwice}, {bids(1, 5, 2, 0, 1, 5), 3, api.ErrTwice},
		{bids(1, 5, 1, 6), 1, api.ErrAsk}, {bids(1, 5, 1, -1), 1, api.ErrArg}, {bids(1, 5, 1, big+1), 1, api.ErrArg}, // its own error ahead of that it stands twice
		{bids(1, 5, 1, 5, 1, 6), 1, api.ErrTwice}, {bids(1, 5, 1, 5, 2, -1), 3, api.ErrTwice}, // and both ahead of what comes behind it
		{bids(1, 5, 2, -1, 1, 5), 3, api.ErrArg}, {bids(1, 5, 2, 1, 1, 5), 3, api.ErrAsk},
		{bids(1, 6, 2, -1), 3, api.ErrAsk}, {bids(2, -1, 1, 6), 3, api.ErrArg}, {bids(0, 0, 0, 0), 3, api.ErrArg},
		{many(64), 127, api.OK}, {many(64), 63, api.ErrArg}, {many(65), 127, api.ErrMany}, {many(65), 0, api.ErrMany}, {make([]api.Bid, 64), 1, api.ErrArg}, {make([]api.Bid, 65), 1, api.ErrMany}, {make([]api.Bid, 1000), 1, api.ErrMany},
		{append(many(63), bids(1, 0)...), 127, api.ErrTwice}, {append(many(63), bids(9, 6)...), 127, api.ErrAsk}, {slices.Repeat(bids(1, 5), 64), 1, api.ErrTwice}, {slices.Repeat(bids(1, 5), 65), 1, api.ErrMany},
	} {
		if e := check.All(r.bs, p, r.items); e != r.want {
			t.Errorf("%d: error %d, not %d", i, e, r.want)
		}
	}
}

// P20.1: is what was bid last there still, with the same price?
func TestKept(t *testing.T) {
	p := store(1, 5, 6, 7)
	for i, r := range []struct {
		old, now []api.Bid
		want     bool
	}{
		{nil, nil, true}, {[]api.Bid{}, bids(1, 4), true}, {bids(1, 5), nil, true}, {bids(1, 6), nil, true}, {bids(1, 4), nil, false}, {bids(1, 4), []api.Bid{}, false},
		{bids(1, 4), bids(1, 4), true}, {bids(1, 4), bids(1, 5), false}, {bids(1, 4), bids(1, 3), false}, {bids(1, 4), bids(2, 4), false}, {bids(1, 4), bids(3, 4), false}, {bids(1, 4), bids(6, 4), false},
		{bids(1, 4), bids(2, 0, 1, 5, 1, 4), true}, {bids(1, 4, 1, 4), bids(1, 4), true}, {bids(1, 4, 1, 3), bids(1, 4), false}, {bids(1, 4, 1, 3), bids(1, 3, 1, 4), true},
		{bids(1, 5, 6, 2), bids(6, 2), true}, {bids(6, 2, 1, 5), bids(1, 5), false}, {bids(1, 5, 6, 7, 2, 0), nil, true}, {bids(1, 5, 6, 7, 2, -1), nil, false}, {bids(2, -1), bids(2, -1), true},
		{bids(0, -1), nil, false}, {bids(0, -1), bids(0, -1), true}, {bids(0, 0), nil, true}, {bids(1, 4, 6, 6, 3, 2), bids(3, 2, 6, 6, 1, 4), true}, {bids(1, 4, 6, 6, 3, 2), bids(3, 2, 6, 6), false}, {bids(1, 4, 6, 6, 3, 2), bids(3, 2, 1, 4), false}, {bids(1, 4, 6, 6, 3, 2), bids(6, 6, 1, 4), false},
		{bids(7, 6), nil, false}, {bids(7, 7), nil, true}, {bids(-1, 6), bids(-1, 6), true},
	} {
		if kept := check.Kept(r.old, r.now, p); kept != r.want {
			t.Errorf("%d: Kept is %v", i, kept)
		}
	}
}

// P20.1: where there is no store nothing is asked.
func TestNoStore(t *testing.T) {
	for _, p := range []*price.Store{nil, {}, price.Of(nil)} {
		wanted(t, "One", check.One(api.Bid{Set: 1}, p, 1), api.OK)
		wanted(t, "One", check.One(api.Bid{Set: 1, Price: 1}, p, 1), api.ErrAsk)
		wanted(t, "One", check.One(api.Bid{}, p, 1), api.ErrArg)
		wanted(t, "Last", check.Last(api.Bid{Set: 1}, p), false)
		wanted(t, "Last", check.Last(api.Bid{Set: 1, Price: -1}, p), true)
		wanted(t, "All", check.All(bids(1, 0, 2, 0), p, 3), api.OK)
		wanted(t, "All", check.All(bids(1, 0, 2, 1), p, 3), api.ErrAsk)
		wanted(t, "Kept", check.Kept(bids(1, 0), nil, p), true)
		wanted(t, "Kept", check.Kept(bids(1, -1), nil, p), false)
	}
}

// P20.1: all calls at random.
func TestAtRandom(t *testing.T) {
	rnd := rand.New(rand.NewPCG(1, 20))
	answered, kept := map[api.Errno]int{}, map[bool]int{}
	for range 20000 {
		es := entriesAtRandom(rnd)
		p, items := price.Of(es), []uint64{31, 31, 63, every, 15}[rnd.IntN(5)]
		old, now := bidsAtRandom(rnd, es), bidsAtRandom(rnd, es)
		if rnd.IntN(2) == 0 {
			now = append(now, old...)
			rnd.Shuffle(len(now), func(i, j int) { now[i], now[j] = now[j], now[i] })
		}
		for _, b := range old {
			wanted(t, "One", check.One(b, p, items), oneOf(b, es, items))
			wanted(t, "Last", check.Last(b, p), b.Price < askOf(es, b.Set))
		}
		for _, bs := range [][]api.Bid{old, now} {
			want := allOf(bs, es, items)
			wanted(t, "All", check.All(bs, p, items), want)
			answered[want]++
		}
		want := keptOf(old, now, es)
		wanted(t, "Kept", check.Kept(old, now, p), want)
		kept[want]++
	}
	for _, e := range []api.Errno{api.OK, api.ErrMany, api.ErrArg, api.ErrAsk, api.ErrTwice} {
		if answered[e] < 300 {
			t.Errorf("answers: %v", answered)
		}
	}
	if kept[true] < 3000 || kept[false] < 3000 {
		t.Errorf("kept: %v", kept)
	}
}

// P20.1: the report by hand: bidders at whose place there is no store, too.
func TestReportByHand(t *testing.T) {
	p, q := store(1, 5), store(2, 9)
	all := [][]api.Bid{bids(1, 5), bids(1, 5), bids(2, 9, 1, 0), nil, {{}}, bids(1, 0, 1, 0), many(65), bids(2, 9), bids(1, 0)}
	for i, r := range []struct {
		all   [][]api.Bid
		ps    []*price.Store
		items uint64
		want  []told
	}{
		{nil, nil, 3, nil}, {nil, []*price.Store{p, nil}, 3, nil}, {make([][]api.Bid, 100), nil, 0, nil},
		{all, []*price.Store{p, nil, q}, 3, []told{{1, api.ErrAsk}, {4, api.ErrArg}, {5, api.ErrTwice}, {6, api.ErrMany}, {7, api.ErrAsk}}},
		{all, []*price.Store{p, p, q, p, p, p, p, q, p, p, nil}, 3, []told{{4, api.ErrArg}, {5, api.ErrTwice}, {6, api.ErrMany}}},
		{all, nil, 3, []told{{0, api.ErrAsk}, {1, api.ErrAsk}, {2, api.ErrAsk}, {4, api.ErrArg}, {5, api.ErrTwice}, {6, api.ErrMany}, {7, api.ErrAsk}}},
		{all, []*price.Store{nil, p, q, q, q, q, q, q}, 1, []told{{0, api.ErrAsk}, {2, api.ErrArg}, {4, api.ErrArg}, {5, api.ErrTwice}, {6, api.ErrMany}, {7, api.ErrArg}}},
		{all, []*price.Store{p, p}, 0, []told{{0, api.ErrArg}, {1, api.ErrArg}, {2, api.ErrArg}, {4, api.ErrArg}, {5, api.ErrArg}, {6, api.ErrMany}, {7, api.ErrArg}, {8, api.ErrArg}}},
		{all[:1], []*price.Store{q, p}, 3, []told{{0, api.ErrAsk}}},
	} {
		got := gather(check.Report(r.all, r.ps, r.items))
		if !slices.Equal(got, r.want) {
			t.Errorf("%d: %v, not %v", i, got, r.want)
		}
	}
}

// bidders are bidders at random: what is asked of them, their stores and their bids. Some have none.
func bidders(rnd *rand.Rand) (all [][]api.Bid, ess [][]api.Entry, ps []*price.Store) {
	n := rnd.IntN(12)
	for i := range n + rnd.IntN(3) {
		es := entriesAtRandom(rnd)
		if i < n {
			all = append(all, bidsAtRandom(rnd, es))
		}
		if rnd.IntN(4) == 0 {
			ess, ps = append(ess, nil), append(ps, nil)
			continue
		}
		ess, ps = append(ess, es), append(ps, price.Of(es))
	}
	cut := rnd.IntN(len(ps) + 1)
	if rnd.IntN(3) > 0 {
		cut = len(ps)
	}
	return all, ess[:cut], ps[:cut]
}

// P20.1: reports at random.
func TestReportAtRandom(t *testing.T) {
	rnd := rand.New(rand.NewPCG(2, 20))
	n := 0
	for range 3000 {
		all, ess, ps := bidders(rnd)
		want := reportOf(all, ess, 31)
		checkList(t, "Report", gather(check.Report(all, ps, 31)), want)
		n += len(want)
	}
	if n < 3000 {
		t.Errorf("%d bidders were told", n)
	}
}

// P20.1: the report goes on as long as more is asked for, and once more too.
func TestReportStops(t *testing.T) {
	all := [][]api.Bid{bids(1, 6), bids(1, 5), bids(0, 0), nil, many(65), bids(1, 5, 1, 5), bids(1, 5)}
	p := store(1, 5)
	want := []told{{0, api.ErrAsk}, {2, api.ErrArg}, {4, api.ErrMany}, {5, api.ErrTwice}}
	seq := check.Report(all, slices.Repeat([]*price.Store{p}, 9), 1)
	for n := range len(want) + 1 {
		var got []told
		seq(func(i int, e api.Errno) bool {
			if len(got) > n {
				t.Error("Report goes on when no more is asked for")
			}
			got = append(got, told{i, e})
			return len(got) <= n
		})
		checkList(t, "Report", got, want[:min(n+1, len(want))])
	}
	for range seq {
		checkList(t, "Report within itself", gather(seq), want)
	}
}

// agents are agents at random, of few items and values or of many, of whom something is asked already or not.
func agents(seed uint64) []*proxy.Agent {
	rnd := rand.New(rand.NewPCG(seed, 20))
	as := []*proxy.Agent{proxy.New(xor.Val{}, nil, 1)}
	for n := range 300 {
		items, most, eps := 1+rnd.IntN(6), int64(1+rnd.IntN(30)), 1+rnd.Int64N(8)
		if n%5 == 0 {
			items, most, eps = 1+rnd.IntN(64), big/2, big/2/(1+rnd.Int64N(9))
		}
		set := func() uint64 { return rnd.Uint64() >> (64 - items) & (rnd.Uint64() | rnd.Uint64()) }
		var atoms []api.Atom
		var es []api.Entry
		for range rnd.IntN(65) {
			atoms = append(atoms, api.Atom{Set: set(), Value: 1 + rnd.Int64N(most)})
		}
		for range rnd.IntN(1 + n%3*3) {
			es = append(es, api.Entry{Set: set(), Ask: 1 + rnd.Int64N(2*most)})
		}
		as = append(as, proxy.New(xor.New(atoms), price.Of(es), eps))
	}
	return as
}

// P20.2: what an agent bids may be, by what is asked of it; what it bid last is kept behind a rise.
func TestAgents(t *testing.T) {
	lasts := 0
	for _, a := range agents(3) {
		for range 12 {
			old, p := a.Bids(), a.Prices()
			wanted(t, "All of an agent", check.All(old, p, a.Val().Items()), api.OK)
			checkList(t, "Report of an agent", gather(check.Report([][]api.Bid{old}, []*price.Store{p}, a.Val().Items())), nil)
			a.Rise()
			now := a.Bids()
			wanted(t, "Kept behind a rise", check.Kept(old, now, p), true)
			for _, b := range old {
				if !check.Last(b, p) {
					continue
				}
				lasts++
				taken := slices.DeleteFunc(slices.Clone(now), func(other api.Bid) bool { return other == b })
				wanted(t, "Kept of one that is taken back", check.Kept(old, taken, p), false)
			}
		}
	}
	if lasts < 1000 {
		t.Errorf("%d bids were last ones", lasts)
	}
}

// P20.3: lists and stores stay, the memory behind the lists' lengths too.
func TestArgumentsStay(t *testing.T) {
	rnd := rand.New(rand.NewPCG(4, 20))
	for range 300 {
		all, ess, ps := bidders(rnd)
		var given, kept [][]api.Bid
		for _, bs := range all {
			room := append(slices.Clone(bs), bids(1, 7, 9, 9, 0, 0)...)
			given, kept = append(given, room[:len(bs)]), append(kept, slices.Clone(room))
		}
		rows, stores := append(slices.Clone(given), bids(7, 7)), append(slices.Clone(ps), nil, store(7, 7))
		stays := slices.Clone(stores)
		for range check.Report(rows[:len(given)], stores[:len(ps)], 31) {
			continue
		}
		for i, bs := range given {
			var p *price.Store
			if i < len(ps) {
				p = ps[i]
			}
			check.All(bs, p, 31)
			check.Kept(bs, given[0], p)
			for _, b := range bs {
				check.One(b, p, 31)
				check.Last(b, p)
			}
		}
		for i, bs := range given {
			checkList(t, "bids, and what is behind them", bs[:len(kept[i])], kept[i])
			checkList(t, "a row", rows[i], bs)
		}
		checkList(t, "the row behind all", rows[len(given)], bids(7, 7))
		checkList(t, "stores, and what is behind them", stores, stays)
		for i, p := range ps {
			if p != nil && !p.Same(price.Of(ess[i])) {
				t.Errorf("a store is turned: %v became %v", ess[i], p.List())
			}
		}
	}
}

// P20.3: lists and stores may be written over behind Report, and on the way.
func TestArgumentsWrittenOver(t *testing.T) {
	rnd := rand.New(rand.NewPCG(5, 20))
	for n := range 600 {
		all, ess, ps := bidders(rnd)
		want := reportOf(all, ess, 31)
		seq := check.Report(all, ps, 31)
		overwrite := func() {
			for i, bs := range all {
				for j := range bs {
					bs[j] = api.Bid{Set: []uint64{0, 1}[n%2], Price: -1}
				}
				all[i] = nil
			}
			for i, p := range ps {
				if p != nil {
					p.Put(1, 100)
					p.Put(every, big)
				}
				ps[i] = store(1, 50)
			}
		}
		if n%3 > 0 {
			overwrite()
			checkList(t, "Report, written over behind the call", gather(seq), want)
			checkList(t, "Report, once more", gather(seq), want)
			continue
		}
		var got []told
		for i, e := range seq {
			got = append(got, told{i, e})
			overwrite()
		}
		checkList(t, "Report, written over on the way", got, want)
	}
}

// P1 of the whole: calls of long lists end, too.
func TestLongLists(t *testing.T) {
	p := store(1, 5, 6, 7)
	var long, other []api.Bid
	for i := range int64(300000) {
		long, other = append(long, api.Bid{Set: 1, Price: 4 - i}), append(other, api.Bid{Set: 1, Price: i - 299995})
	}
	all, ps := make([][]api.Bid, 100000), make([]*price.Store, 99999)
	for i := range all {
		all[i] = long[:1]
	}
	for i := range ps {
		ps[i] = p
	}
	soon(t, "a call of a long list", func() {
		wanted(t, "All", check.All(long, p, 1), api.ErrMany)
		wanted(t, "Kept", check.Kept(long, other, p), true)
		wanted(t, "Kept", check.Kept(long, other[1:], p), false)
		checkList(t, "Report", gather(check.Report(all, ps, 1)), []told{{99999, api.ErrAsk}})
		for range check.Report(slices.Repeat([][]api.Bid{long}, 20000), nil, 1) {
			break
		}
	})
}

// P2 of the whole: the same arguments are answered the same.
func TestAnswersHangOnArguments(t *testing.T) {
	rnd := rand.New(rand.NewPCG(6, 20))
	for range 300 {
		all, _, ps := bidders(rnd)
		first := gather(check.Report(all, ps, 31))
		for range 3 {
			checkList(t, "Report once more", gather(check.Report(all, ps, 31)), first)
		}
	}
}
