// The tests of layer 11. Above each stands the promise that it holds the program to.
package price_test

import (
	"math"
	"math/rand/v2"
	"slices"
	"testing"
	"time"

	"saleroom/api"
	"saleroom/price"
)

const (
	all uint64 = math.MaxUint64 // the set of all items
	big int64  = 1 << 40        // the most by which an ask rises
	top int64  = 2 * big        // the greatest ask
)

// entries are entries told as sets and asks in turn.
func entries(numbers ...int64) []api.Entry {
	var es []api.Entry
	for i := 0; i < len(numbers); i += 2 {
		es = append(es, api.Entry{Set: uint64(numbers[i]), Ask: numbers[i+1]})
	}
	return es
}

// store is the store of entries told as sets and asks in turn.
func store(numbers ...int64) *price.Store { return price.Of(entries(numbers...)) }

// countOf is how many items a set has, found bit by bit.
func countOf(s uint64) int {
	n := 0
	for ; s > 0; s /= 2 {
		n += int(s % 2)
	}
	return n
}

// standsAhead tells whether a set stands before another one, as layer 2 tells it.
func standsAhead(a, b uint64) bool {
	return countOf(a) < countOf(b) || countOf(a) == countOf(b) && a < b
}

// liesWithin tells whether all items of a are in b.
func liesWithin(a, b uint64) bool { return a|b == b }

// asks are all asks that were put, the greatest by each set: what a store is held to.
type asks map[uint64]int64

func (m asks) ask(s uint64) int64 {
	var most int64
	for other, ask := range m {
		if liesWithin(other, s) {
			most = max(most, ask)
		}
	}
	return most
}

func (m asks) put(s uint64, ask int64) bool {
	if s == 0 || ask > top || m.ask(s) >= ask {
		return false
	}
	m[s] = ask
	return true
}

// tight are the entries of which each asks more than all that lies within it.
func (m asks) tight() []api.Entry {
	var es []api.Entry
	for s, ask := range m {
		beaten := false
		for other, more := range m {
			beaten = beaten || other != s && liesWithin(other, s) && more >= ask
		}
		if !beaten {
			es = append(es, api.Entry{Set: s, Ask: ask})
		}
	}
	slices.SortFunc(es, func(a, b api.Entry) int {
		if standsAhead(a.Set, b.Set) {
			return -1
		}
		return 1
	})
	return es
}

// asksOf is what entries ask that were put one by one.
func asksOf(es []api.Entry) asks {
	m := asks{}
	for _, e := range es {
		m.put(e.Set, e.Ask)
	}
	return m
}

// isTight tells whether entries are tight, word by word as the document does.
func isTight(es []api.Entry) bool {
	for i, e := range es {
		if e.Set == 0 || e.Ask < 1 || e.Ask > top || i > 0 && !standsAhead(es[i-1].Set, e.Set) {
			return false
		}
		for j, other := range es {
			if i != j && liesWithin(other.Set, e.Set) && other.Ask >= e.Ask {
				return false
			}
		}
	}
	return true
}

// oneOf is an entry at random: of few items or of many, of few asks or of many, one that may be or not.
func oneOf(rnd *rand.Rand, items int, most int64) api.Entry {
	e := api.Entry{Set: rnd.Uint64() >> (64 - items), Ask: 1 + rnd.Int64N(most)}
	if rnd.IntN(3) == 0 {
		e.Set &= rnd.Uint64()
	}
	switch rnd.IntN(20) {
	case 0:
		e.Set = 0
	case 1:
		e.Ask = []int64{0, -1, math.MinInt64, -top, top + 1, math.MaxInt64}[rnd.IntN(6)]
	case 2:
		e.Ask = []int64{1, big, top - 1, top}[rnd.IntN(4)]
	}
	return e
}

// lists are lists at random, by hand, and at their ends.
func lists() [][]api.Entry {
	ls := [][]api.Entry{nil, {}, {{}}, make([]api.Entry, 100), entries(1, 1), entries(1, 0), entries(0, 1), entries(-1, top), entries(1, top+1), entries(1, -1), entries(1, math.MaxInt64, 1, math.MinInt64), entries(1, 3, 3, 5)}
	rnd := rand.New(rand.NewPCG(1, 11))
	for n := range 200 {
		var es []api.Entry
		items, most := 1+rnd.IntN(6), int64(1+rnd.IntN(12))
		if n%5 == 0 {
			items, most = 1+rnd.IntN(64), top
		}
		for range rnd.IntN(1 + n/5) {
			es = append(es, oneOf(rnd, items, most))
		}
		ls = append(ls, es)
	}
	return ls
}

// setsFor are sets to hold against entries: theirs, with an item more and less, others, and the ends.
func setsFor(rnd *rand.Rand, es []api.Entry) []uint64 {
	ss := []uint64{0, 1, 2, 3, 7, all, all - 1, all >> 1, 1 << 63, rnd.Uint64(), rnd.Uint64() % 64, rnd.Uint64() % 64}
	for range min(len(es), 6) {
		s := es[rnd.IntN(len(es))].Set
		ss = append(ss, s, s&(s-1), s|1<<rnd.IntN(64), s|es[rnd.IntN(len(es))].Set, ^s)
	}
	return ss
}

// checkList: a list is what it should be.
func checkList(t *testing.T, what string, got, want []api.Entry) {
	t.Helper()
	if !slices.Equal(got, want) {
		t.Errorf("%s: %v, not %v", what, got, want)
	}
}

// listed are all entries that come.
func listed(p *price.Store) []api.Entry {
	var es []api.Entry
	for s, ask := range p.Entries() {
		es = append(es, api.Entry{Set: s, Ask: ask})
	}
	return es
}

// checkStore: a store has these entries, which are tight, and asks what they ask for some sets.
func checkStore(t *testing.T, what string, p *price.Store, want []api.Entry, ss ...uint64) {
	t.Helper()
	checkList(t, what, p.List(), want)
	checkList(t, what+", one by one", listed(p), want)
	if p.Len() != len(want) || !isTight(want) || !price.Tight(p.List()) {
		t.Errorf("%s: there are %d; are they tight? %v, %v", what, p.Len(), isTight(want), price.Tight(p.List()))
	}
	m := asksOf(want)
	for _, s := range append(ss, 0, all) {
		if p.Ask(s) != m.ask(s) {
			t.Errorf("%s: asked for %b is %d, not %d", what, s, p.Ask(s), m.ask(s))
		}
	}
}

// soon fails a test in which a call doesn't end.
func soon(t *testing.T, what string, do func()) {
	t.Helper()
	done := make(chan struct{})
	go func() {
		defer close(done)
		do()
	}()
	select {
	case <-done:
	case <-time.After(30 * time.Second):
		t.Fatalf("%s doesn't end", what)
	}
}

// P11.1: the document's example.
func TestExample(t *testing.T) {
	var p price.Store
	if !p.Put(3, 5) || !p.Put(1, 3) {
		t.Error("Put is false")
	}
	if p.Ask(1) != 3 || p.Ask(3) != 5 {
		t.Errorf("asked %d, %d", p.Ask(1), p.Ask(3))
	}
	if !p.Put(1, 7) {
		t.Error("Put of more is false")
	}
	checkStore(t, "one entry", &p, entries(1, 7))
}

// P11.1: the zero store has no entries, and is such as others.
func TestZero(t *testing.T) {
	var zero price.Store
	for _, p := range []*price.Store{&zero, new(price.Store), price.Of(nil), price.Of([]api.Entry{}), store(0, 5, 1, 0, 2, -1, 4, top+1), zero.Clone(), price.Merge(), price.Merge(&zero), price.Merge(nil, &zero)} {
		checkStore(t, "of no entries", p, nil, 1, 2, 3)
		if s, ok := p.Less(&zero); s != 0 || ok || !p.Same(&zero) || !zero.Same(p) {
			t.Error("it isn't the same as the zero one")
		}
		if !p.Put(2, 4) {
			t.Error("nothing is put")
		}
		checkStore(t, "behind Put", p, entries(2, 4), 1, 2, 3)
		if n, ok := p.Rise(3, 1); n != 5 || !ok {
			t.Errorf("Rise: %d, %v", n, ok)
		}
		*p = price.Store{}
	}
}

// P11.1: what is put, call by call, and what there is behind it.
func TestPutByHand(t *testing.T) {
	var p price.Store
	for i, r := range []struct {
		s    uint64
		ask  int64
		ok   bool
		want []api.Entry
	}{
		{3, 5, true, entries(3, 5)}, {3, 5, false, entries(3, 5)}, {3, 4, false, entries(3, 5)}, {3, 6, true, entries(3, 6)},
		{1, 3, true, entries(1, 3, 3, 6)}, {1, 3, false, entries(1, 3, 3, 6)}, {7, 6, false, entries(1, 3, 3, 6)}, {7, 7, true, entries(1, 3, 3, 6, 7, 7)}, {5, 3, false, entries(1, 3, 3, 6, 7, 7)}, {5, 4, true, entries(1, 3, 3, 6, 5, 4, 7, 7)},
		{2, 6, true, entries(1, 3, 2, 6, 5, 4, 7, 7)}, // {0,1} asks no more than {1}
		{3, 6, false, entries(1, 3, 2, 6, 5, 4, 7, 7)}, {4, 7, true, entries(1, 3, 2, 6, 4, 7)}, {6, 7, false, entries(1, 3, 2, 6, 4, 7)}, {1, 4, true, entries(1, 4, 2, 6, 4, 7)},
		{0, 9, false, entries(1, 4, 2, 6, 4, 7)}, {0, 0, false, entries(1, 4, 2, 6, 4, 7)}, {0, top + 1, false, entries(1, 4, 2, 6, 4, 7)},
		{8, 0, false, entries(1, 4, 2, 6, 4, 7)}, {8, -1, false, entries(1, 4, 2, 6, 4, 7)}, {8, math.MinInt64, false, entries(1, 4, 2, 6, 4, 7)},
		{8, top + 1, false, entries(1, 4, 2, 6, 4, 7)}, {8, math.MaxInt64, false, entries(1, 4, 2, 6, 4, 7)}, {1, top + 1, false, entries(1, 4, 2, 6, 4, 7)},
		{1 << 63, 1, true, entries(1, 4, 2, 6, 4, 7, math.MinInt64, 1)}, {all, 8, true, entries(1, 4, 2, 6, 4, 7, math.MinInt64, 1, -1, 8)}, {all, top, true, entries(1, 4, 2, 6, 4, 7, math.MinInt64, 1, -1, top)},
		{all, top, false, entries(1, 4, 2, 6, 4, 7, math.MinInt64, 1, -1, top)}, {1 << 63, top - 1, true, entries(1, 4, 2, 6, 4, 7, math.MinInt64, top-1, -1, top)}, {1, top, true, entries(1, top, 2, 6, 4, 7, math.MinInt64, top-1)},
		{2, top, true, entries(1, top, 2, top, 4, 7, math.MinInt64, top-1)}, {7, top, false, entries(1, top, 2, top, 4, 7, math.MinInt64, top-1)}, {12, 7, false, entries(1, top, 2, top, 4, 7, math.MinInt64, top-1)}, {12, 8, true, entries(1, top, 2, top, 4, 7, math.MinInt64, top-1, 12, 8)},
	} {
		if ok := p.Put(r.s, r.ask); ok != r.ok {
			t.Errorf("%d: Put of %b, %d is %v", i, r.s, r.ask, ok)
		}
		checkStore(t, "behind Put", &p, r.want, 1, 2, 3, 4, 5, 6, 7, 8, 12, 1<<63, all-1)
	}
}

// P11.1: what rises, call by call: by 1 to 2^40, up to 2^41, for no empty set.
func TestRiseByHand(t *testing.T) {
	var p price.Store
	for i, r := range []struct {
		s    uint64
		by   int64
		ask  int64
		ok   bool
		want []api.Entry
	}{
		{1, 3, 3, true, entries(1, 3)}, {1, 2, 5, true, entries(1, 5)}, {3, 1, 6, true, entries(1, 5, 3, 6)}, {1, 1, 6, true, entries(1, 6)}, {4, 3, 3, true, entries(1, 6, 4, 3)}, {5, 2, 8, true, entries(1, 6, 4, 3, 5, 8)}, {6, 1, 4, true, entries(1, 6, 4, 3, 5, 8, 6, 4)},
		{4, 1, 4, true, entries(1, 6, 4, 4, 5, 8)}, {4, 9, 13, true, entries(1, 6, 4, 13)},
		{1, 0, 0, false, entries(1, 6, 4, 13)}, {1, -1, 0, false, entries(1, 6, 4, 13)}, {1, math.MinInt64, 0, false, entries(1, 6, 4, 13)}, {1, big + 1, 0, false, entries(1, 6, 4, 13)}, {1, top, 0, false, entries(1, 6, 4, 13)}, {1, math.MaxInt64, 0, false, entries(1, 6, 4, 13)},
		{0, 1, 0, false, entries(1, 6, 4, 13)}, {0, big, 0, false, entries(1, 6, 4, 13)}, {0, 0, 0, false, entries(1, 6, 4, 13)}, {8, 0, 0, false, entries(1, 6, 4, 13)}, {8, -5, 0, false, entries(1, 6, 4, 13)},
		{1, big, big + 6, true, entries(1, big+6, 4, 13)}, {1, big, 0, false, entries(1, big+6, 4, 13)}, {1, big - 5, 0, false, entries(1, big+6, 4, 13)}, {1, big - 6, top, true, entries(1, top, 4, 13)}, {1, 1, 0, false, entries(1, top, 4, 13)}, {3, 1, 0, false, entries(1, top, 4, 13)},
		{2, big, big, true, entries(1, top, 2, big, 4, 13)}, {2, big, top, true, entries(1, top, 2, top, 4, 13)}, {2, big, 0, false, entries(1, top, 2, top, 4, 13)}, {all, 1, 0, false, entries(1, top, 2, top, 4, 13)}, {all - 3, 1, 14, true, entries(1, top, 2, top, 4, 13, -4, 14)},
	} {
		if ask, ok := p.Rise(r.s, r.by); ask != r.ask || ok != r.ok {
			t.Errorf("%d: Rise of %b, %d is %d, %v", i, r.s, r.by, ask, ok)
		}
		checkStore(t, "behind Rise", &p, r.want, 1, 2, 3, 4, 5, 6, 7, 8)
	}
}

// rise is what Rise should answer.
func (m asks) rise(s uint64, by int64) (int64, bool) {
	ask := m.ask(s) + by
	if by < 1 || by > big || !m.put(s, ask) {
		return 0, false
	}
	return ask, true
}

// P11.1, P11.2: all orders of calls; the entries are tight behind each; what is asked never falls, and is no less than for what lies within.
func TestCallsAtRandom(t *testing.T) {
	rnd := rand.New(rand.NewPCG(2, 11))
	for n := range 300 {
		p, m, before := new(price.Store), asks{}, make([]int64, 64)
		items, most := 1+rnd.IntN(6), int64(1+rnd.IntN(30))
		if n%10 == 0 {
			items, most = 64, top
		}
		for range 1 + rnd.IntN(60) {
			e := oneOf(rnd, items, most)
			if rnd.IntN(2) == 0 {
				if got, want := p.Put(e.Set, e.Ask), m.put(e.Set, e.Ask); got != want {
					t.Errorf("Put of %b, %d is %v", e.Set, e.Ask, got)
				}
			} else {
				by := min(e.Ask, 1+rnd.Int64N(8))
				got, ok := p.Rise(e.Set, by)
				if want, is := m.rise(e.Set, by); got != want || ok != is {
					t.Errorf("Rise of %b, %d is %d, %v, not %d, %v", e.Set, by, got, ok, want, is)
				}
			}
			checkStore(t, "behind a call", p, m.tight(), e.Set, e.Set&(e.Set-1), e.Set|1<<rnd.IntN(64), rnd.Uint64())
			for s, ask := range before {
				before[s] = p.Ask(uint64(s))
				if before[s] < ask || before[s] < before[s&(s-1)] || before[s] < before[s&rnd.IntN(64)] || before[s] != m.ask(uint64(s)) {
					t.Fatalf("asked for %b was %d, is %d, should be %d", s, ask, before[s], m.ask(uint64(s)))
				}
			}
		}
	}
}

// P11.2: for a set no less is asked than for what lies within it, of sets of any size.
func TestAsksGrow(t *testing.T) {
	rnd := rand.New(rand.NewPCG(3, 11))
	for _, es := range lists() {
		p, ss := price.Of(es), setsFor(rnd, es)
		for _, s := range ss {
			for _, other := range ss {
				if p.Ask(s&other) > p.Ask(s) || p.Ask(s|other) < max(p.Ask(s), p.Ask(other)) {
					t.Errorf("asked for %b: %d, for %b: %d", s, p.Ask(s), other, p.Ask(other))
				}
			}
		}
	}
}

// P11.1: a store of entries has each of them put, in order; of those that may not be, none.
func TestOf(t *testing.T) {
	for _, r := range []struct{ es, want []api.Entry }{
		{nil, nil}, {entries(1, 5), entries(1, 5)}, {entries(3, 5, 1, 3), entries(1, 3, 3, 5)}, {entries(3, 5, 1, 3, 1, 7), entries(1, 7)}, {entries(1, 7, 3, 5, 1, 3), entries(1, 7)}, {entries(1, 2, 1, 3, 1, 1), entries(1, 3)},
		{entries(3, 2, 4, 2, 5, 2, 4, 1), entries(4, 2, 3, 2)}, {entries(0, 5, 2, 0, 4, -7, 8, top+1, 16, top, 32, math.MaxInt64), entries(16, top)}, {entries(1, top+1, 1, 4, 0, 9), entries(1, 4)},
		{entries(-1, 9, math.MinInt64, 5, 1, 1), entries(1, 1, math.MinInt64, 5, -1, 9)}, {entries(7, 3, 6, 3, 5, 3, 3, 3, 2, 3, 1, 3), entries(1, 3, 2, 3)},
	} {
		checkStore(t, "Of", price.Of(r.es), r.want, 1, 2, 3, 4, 5, 6, 7)
	}
	rnd := rand.New(rand.NewPCG(4, 11))
	for _, es := range lists() {
		one := new(price.Store)
		for _, e := range es {
			one.Put(e.Set, e.Ask)
		}
		want := asksOf(es).tight()
		checkStore(t, "put one by one", one, want)
		checkStore(t, "Of", price.Of(es), want, setsFor(rnd, es)...)
		checkStore(t, "Of its own list", price.Of(one.List()), want)
	}
}

// P11.3: two stores of which the same is asked for all sets have the same entries, whatever was put, in whatever order.
func TestSameAsksSameEntries(t *testing.T) {
	rnd := rand.New(rand.NewPCG(5, 11))
	for _, es := range lists() {
		p := price.Of(es)
		others := slices.Clone(es)
		for _, e := range p.List() { // what asks for no more than is asked already
			others = append(others, api.Entry{Set: e.Set | rnd.Uint64(), Ask: 1 + rnd.Int64N(e.Ask)}, e)
		}
		rnd.Shuffle(len(others), func(i, j int) { others[i], others[j] = others[j], others[i] })
		q := price.Of(others)
		checkStore(t, "in another order", q, p.List())
		if !p.Same(q) || !q.Same(p) {
			t.Errorf("%v and %v aren't the same", p.List(), q.List())
		}
	}
	seen := map[[16]int64]*price.Store{}
	for range 20000 { // of few sets all asks are held against each other
		p, at := new(price.Store), [16]int64{}
		for range rnd.IntN(5) {
			p.Put(rnd.Uint64()%16, rnd.Int64N(4))
		}
		for s := range at {
			at[s] = p.Ask(uint64(s))
		}
		if q := seen[at]; q != nil && (!q.Same(p) || !slices.Equal(q.List(), p.List())) {
			t.Fatalf("%v and %v ask the same", q.List(), p.List())
		}
		seen[at] = p
	}
}

// P11.1: stores are the same, if they have the same entries.
func TestSame(t *testing.T) {
	ps := []*price.Store{{}, store(1, 5), store(1, 6), store(2, 5), store(1, 5, 2, 5), store(1, 5, 3, 8), store(1, 5, 3, 9), store(1, 5, 2, 5, 3, 8), store(3, 8), store(-1, 5), store(1, 5, 2, 6)}
	for i, p := range ps {
		for j, q := range ps {
			if p.Same(q) != (i == j) {
				t.Errorf("%d, %d: Same is %v", i, j, p.Same(q))
			}
		}
		if p.Same(nil) != (i == 0) {
			t.Errorf("%d: the same as none: %v", i, p.Same(nil))
		}
	}
	ls := lists()
	rnd := rand.New(rand.NewPCG(6, 11))
	for _, es := range ls {
		other := ls[rnd.IntN(len(ls))]
		if got := price.Of(es).Same(price.Of(other)); got != slices.Equal(asksOf(es).tight(), asksOf(other).tight()) {
			t.Errorf("%v and %v: Same is %v", es, other, got)
		}
	}
}

// P11.1: entries that are tight, and such as aren't, each for one reason alone.
func TestTightByHand(t *testing.T) {
	for _, es := range [][]api.Entry{nil, {}, entries(1, 1), entries(1, top), entries(1, big+1), entries(1, 5, 2, 5, 4, 1, 3, 6), entries(1, 9, 6, 2), entries(3, 1, 5, 1, 6, 1, 7, 2), entries(-1, 1), entries(1<<62, 1, math.MinInt64, 1), entries(1, top, 2, top)} {
		if !price.Tight(es) {
			t.Errorf("%v isn't tight", es)
		}
	}
	for _, es := range [][]api.Entry{
		{{}}, entries(0, 1), entries(1, 0), entries(1, -1), entries(1, top+1), entries(1, math.MaxInt64), entries(1, math.MinInt64), entries(0, 1, 1, 2), entries(1, 2, 2, 0), entries(1, 2, 3, top+1), // one may not be
		entries(2, 1, 1, 1), entries(3, 1, 4, 1), entries(3, 2, 1, 1), entries(6, 1, 5, 1), entries(math.MinInt64, 1, 1, 1), entries(1, 1, 7, 3, 6, 2), // another order
		entries(1, 1, 1, 1), entries(1, 1, 1, 2), entries(1, 2, 1, 1), entries(1, 1, 2, 1, 2, 2), // one stands twice
		entries(1, 1, 3, 1), entries(1, 2, 3, 1), entries(1, 5, 2, 1, 3, 5), entries(2, 5, 5, 7, 7, 7), entries(1, 1, -1, 1), entries(1, 1, 2, 9, 5, 3, 7, 9), // one asks no more than what lies within it
	} {
		if price.Tight(es) {
			t.Errorf("%v is tight", es)
		}
	}
}

// P11.1: whether entries are tight, of lists at random, and of tight ones with one turned, lost, or twice.
func TestTightAtRandom(t *testing.T) {
	rnd := rand.New(rand.NewPCG(7, 11))
	check := func(es []api.Entry) {
		if got := price.Tight(es); got != isTight(es) {
			t.Errorf("Tight of %v is %v", es, got)
		}
	}
	for _, es := range lists() {
		check(es)
		tight := asksOf(es).tight()
		check(tight)
		for i := range tight {
			check(slices.Insert(slices.Clone(tight), i, tight[i]))
			check(slices.Delete(slices.Clone(tight), i, i+1))
			other, less, swapped := slices.Clone(tight), slices.Clone(tight), slices.Clone(tight)
			other[i] = oneOf(rnd, 6, 12)
			less[i].Ask--
			j := rnd.IntN(len(tight))
			swapped[i], swapped[j] = swapped[j], swapped[i]
			check(other)
			check(less)
			check(swapped)
		}
	}
}

// P11.1: entries come in order, as long as more is asked for, and may be gone over again, within themselves too.
func TestEntries(t *testing.T) {
	want := entries(1, 5, 2, 4, 4, 2, 3, 8, 6, 9)
	seq := price.Of(want).Entries()
	for n := range len(want) {
		var got []api.Entry
		seq(func(s uint64, ask int64) bool {
			if len(got) > n {
				t.Error("it goes on when no more is asked for")
			}
			got = append(got, api.Entry{Set: s, Ask: ask})
			return len(got) <= n
		})
		checkList(t, "the first entries", got, want[:n+1])
	}
	for range seq {
		var got []api.Entry
		for s, ask := range seq {
			got = append(got, api.Entry{Set: s, Ask: ask})
		}
		checkList(t, "within itself", got, want)
	}
}

// P11.4, P2 of the whole: what goes on has the entries that there were, whatever is put on the way.
func TestEntriesThatAreTurned(t *testing.T) {
	want := entries(1, 5, 2, 4, 4, 2, 3, 8, 6, 9)
	p := price.Of(want)
	seq := p.Entries()
	var got []api.Entry
	for s, ask := range seq {
		got = append(got, api.Entry{Set: s, Ask: ask})
		p.Put(8, int64(len(got)))
		p.Rise(1, 3)
		p.Put(64>>len(got), 20)
	}
	checkList(t, "turned on the way", got, want)
	checkStore(t, "behind it", p, entries(1, 20, 2, 20, 4, 20, 8, 20, 16, 20, 32, 20))
	got = nil
	for s, ask := range seq {
		got = append(got, api.Entry{Set: s, Ask: ask})
	}
	checkList(t, "gone over again", got, want)
}

// P11.1: merged, by hand: nothing is asked of none, and a store that there isn't asks nothing.
func TestMergeByHand(t *testing.T) {
	a, b, c := store(1, 3, 3, 5), store(1, 4, 4, 2), store(2, 5)
	for _, r := range []struct {
		ps   []*price.Store
		want []api.Entry
	}{
		{nil, nil}, {[]*price.Store{{}}, nil}, {[]*price.Store{nil}, nil}, {[]*price.Store{nil, nil, {}}, nil}, {[]*price.Store{a}, entries(1, 3, 3, 5)}, {[]*price.Store{a, a}, entries(1, 3, 3, 5)},
		{[]*price.Store{a, b}, entries(1, 4, 4, 2, 3, 5)}, {[]*price.Store{a, c}, entries(1, 3, 2, 5)}, {[]*price.Store{a, b, c}, entries(1, 4, 2, 5, 4, 2)}, {[]*price.Store{nil, b, {}, c, nil}, entries(1, 4, 2, 5, 4, 2)},
		{[]*price.Store{store(1, top), a, store(-1, top)}, entries(1, top)}, {[]*price.Store{store(3, 5), store(5, 5), store(1, 5)}, entries(1, 5)}, {[]*price.Store{store(3, 5), store(5, 5), store(1, 4)}, entries(1, 4, 3, 5, 5, 5)},
	} {
		checkStore(t, "Merge", price.Merge(r.ps...), r.want, 1, 2, 3, 4, 5, 6, 7)
		slices.Reverse(r.ps)
		checkStore(t, "Merge the other way", price.Merge(r.ps...), r.want)
	}
	checkStore(t, "the first one", a, entries(1, 3, 3, 5))
	checkStore(t, "the second one", b, entries(1, 4, 4, 2))
}

// P11.1: merged, at random: for each set the most that any asks; each goes its own way behind it.
func TestMergeAtRandom(t *testing.T) {
	rnd := rand.New(rand.NewPCG(8, 11))
	ls := lists()
	for range 300 {
		var ps []*price.Store
		var together []api.Entry
		for range rnd.IntN(5) {
			es := ls[rnd.IntN(len(ls))]
			ps, together = append(ps, price.Of(es)), append(together, es...)
		}
		merged := price.Merge(ps...)
		want := asksOf(together).tight()
		checkStore(t, "Merge", merged, want, setsFor(rnd, together)...)
		for _, s := range setsFor(rnd, together) {
			var most int64
			for _, p := range ps {
				most = max(most, p.Ask(s))
			}
			if merged.Ask(s) != most {
				t.Errorf("asked for %b: %d, of them %d", s, merged.Ask(s), most)
			}
		}
		for i, p := range ps {
			had := p.List()
			merged.Put(1<<i, top)
			checkList(t, "one of them", p.List(), had)
			had = merged.List()
			p.Put(1<<60, top-1)
			p.Put(all, top)
			checkList(t, "what was merged", merged.List(), had)
		}
	}
}

// P11.1: the first set for which less is asked, by hand.
func TestLessByHand(t *testing.T) {
	for i, r := range []struct {
		p, q *price.Store
		s    uint64
		ok   bool
	}{
		{store(), store(), 0, false}, {store(1, 5), store(), 0, false}, {store(1, 5), nil, 0, false}, {store(), nil, 0, false}, {store(), store(1, 5), 1, true}, {store(), store(6, 5, 3, 2), 3, true},
		{store(1, 5), store(1, 5), 0, false}, {store(1, 5), store(1, 4), 0, false}, {store(1, 5), store(1, 6), 1, true}, {store(1, 5), store(2, 1), 2, true}, {store(1, 5), store(3, 5), 0, false}, {store(1, 5), store(3, 6), 3, true}, {store(3, 9), store(1, 1), 1, true},
		{store(1, 5, 2, 5), store(1, 5, 2, 4, 3, 5), 0, false}, {store(1, 5, 2, 3), store(1, 4, 2, 4, 3, 9), 2, true}, {store(1, 5, 2, 4), store(1, 4, 2, 4, 3, 9, 4, 1), 4, true}, {store(1, 5, 2, 4), store(1, 4, 2, 4, 3, 9), 3, true},
		{store(4, 1, 3, 1), store(4, 2, 3, 2), 4, true}, {store(1, top), store(-1, top), 0, false}, {store(-1, top), store(math.MinInt64, 1), 1 << 63, true}, {store(1, top-1), store(1, top), 1, true},
	} {
		if s, ok := r.p.Less(r.q); s != r.s || ok != r.ok {
			t.Errorf("%d: Less is %b, %v", i, s, ok)
		}
	}
}

// P11.1: the first set for which less is asked, at random.
func TestLessAtRandom(t *testing.T) {
	rnd := rand.New(rand.NewPCG(9, 11))
	ls := lists()
	for range 3000 {
		a := ls[rnd.IntN(len(ls))]
		b := ls[rnd.IntN(len(ls))]
		if rnd.IntN(2) == 0 {
			b = a[:rnd.IntN(len(a)+1)]
		}
		m, want, is := asksOf(a), uint64(0), false
		for _, e := range asksOf(b).tight() {
			if m.ask(e.Set) < e.Ask && !is {
				want, is = e.Set, true
			}
		}
		if s, ok := price.Of(a).Less(price.Of(b)); s != want || ok != is {
			t.Errorf("%v, %v: Less is %b, %v, not %b, %v", a, b, s, ok, want, is)
		}
	}
}

// P11.4: clones, and clones of them, go their own ways, whatever is put into any of them.
func TestClonesAtRandom(t *testing.T) {
	rnd := rand.New(rand.NewPCG(10, 11))
	for range 60 {
		ps, ms := []*price.Store{{}}, []asks{{}}
		for range 100 {
			i := rnd.IntN(len(ps))
			if rnd.IntN(6) == 0 && len(ps) < 8 {
				m := asks{}
				for s, ask := range ms[i] {
					m[s] = ask
				}
				ps, ms = append(ps, ps[i].Clone()), append(ms, m)
			}
			e := oneOf(rnd, 5, 20)
			if ps[i].Put(e.Set, e.Ask) != ms[i].put(e.Set, e.Ask) {
				t.Error("Put in a clone")
			}
			for j, p := range ps {
				checkStore(t, "a clone", p, ms[j].tight())
			}
		}
	}
	p := store(1, 5, 3, 8)
	q, other := p.Clone(), *p
	if !q.Same(p) || !p.Same(q) {
		t.Error("a clone isn't the same")
	}
	p.Put(1, 9)
	checkStore(t, "the clone", q, entries(1, 5, 3, 8))
	checkStore(t, "what it was assigned to", &other, entries(1, 5, 3, 8))
	q.Rise(3, 2)
	other.Put(3, 20)
	checkStore(t, "the first one", p, entries(1, 9))
	checkStore(t, "the clone", q, entries(1, 5, 3, 10))
}

// overwrite writes over a list, the memory behind its length too.
func overwrite(es []api.Entry) {
	es = es[:cap(es)]
	for i := range es {
		es[i] = api.Entry{Set: 1 << 40, Ask: 77}
	}
}

// P11.4: lists are new memory each time, spare room too; what is put behind them isn't seen in them.
func TestListsAreNew(t *testing.T) {
	rnd := rand.New(rand.NewPCG(11, 11))
	for _, es := range lists() {
		p := price.Of(es)
		want := asksOf(es).tight()
		one, other := p.List(), p.List()
		overwrite(one)
		checkList(t, "another answer", other, want)
		checkStore(t, "behind it", p, want)
		for range 5 {
			e := oneOf(rnd, 6, 12)
			p.Put(e.Set, e.Ask)
			p.Rise(e.Set, 1)
		}
		checkList(t, "an answer ahead of Put", other, want)
		had := p.List()
		overwrite(other)
		checkStore(t, "behind that", p, had)
	}
}

// The rules that hold everywhere: what is handed in stays, the memory behind its length too, and may be written over behind the call.
func TestArguments(t *testing.T) {
	for _, es := range lists() {
		room := append(slices.Clone(es), entries(1, 7, 9, 9, 0, 0)...)
		kept := slices.Clone(room)
		p := price.Of(room[:len(es)])
		price.Tight(room[:len(es)])
		p.Put(1, 9)
		p.Rise(6, 2)
		checkList(t, "what was handed in", room, kept)
		had := p.List()
		overwrite(room)
		checkStore(t, "behind it", p, had)
		q := price.Of(es)
		q.Less(p)
		q.Same(p)
		ps := []*price.Store{q, p, q}
		price.Merge(ps[:2]...)
		checkStore(t, "handed in", p, had)
		if ps[0] != q || ps[1] != p || ps[2] != q {
			t.Error("Merge turns what it is handed")
		}
	}
}

// P1 of the whole: long lists end, too, and so do many calls.
func TestLongLists(t *testing.T) {
	rnd := rand.New(rand.NewPCG(12, 11))
	var few, many []api.Entry
	for range 200000 {
		few = append(few, oneOf(rnd, 8, 1000))
	}
	for range 3000 {
		many = append(many, oneOf(rnd, 64, top))
	}
	soon(t, "a call of a long list", func() {
		for _, es := range [][]api.Entry{few, many, slices.Repeat(entries(5, 5), 200000)} {
			p, want := price.Of(es), asksOf(es).tight()
			checkStore(t, "of a long list", p, want)
			if _, ok := p.Less(price.Merge(p, p)); ok || price.Tight(es) {
				t.Error("Less, Merge, Tight of a long list")
			}
		}
		var p price.Store
		for n := range int64(100000) {
			p.Rise(1<<(n%64), 1)
		}
		if p.Len() != 64 || p.Ask(1) != 1563 || p.Ask(1<<63) != 1562 {
			t.Errorf("many rises: %d, %d", p.Ask(1), p.Ask(1<<63))
		}
	})
}

// P2 of the whole: the same calls are answered the same.
func TestAnswersHangOnCalls(t *testing.T) {
	ls := lists()
	var first [][]api.Entry
	for _, es := range ls {
		first = append(first, price.Of(es).List())
	}
	for range 3 {
		for i := range ls {
			checkList(t, "once more", price.Of(ls[len(ls)-1-i]).List(), first[len(ls)-1-i])
		}
	}
}
