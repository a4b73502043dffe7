// The tests of layer 12. Above each stands the promise that it holds the program to.
package delta_test

import (
	"bytes"
	"math"
	"math/rand/v2"
	"slices"
	"testing"
	"time"

	"saleroom/api"
	"saleroom/delta"
)

const (
	all uint64 = math.MaxUint64 // the set of all items
	big int64  = 1 << 40        // the most that an ask counts in a sum
	top int64  = 2 * big        // the greatest ask
	sum int64  = 1 << 47        // the greatest sum
)

// book is what a book is told as.
type book = [][]api.Entry

// entries are entries told as sets and asks in turn.
func entries(numbers ...int64) []api.Entry {
	var es []api.Entry
	for i := 0; i < len(numbers); i += 2 {
		es = append(es, api.Entry{Set: uint64(numbers[i]), Ask: numbers[i+1]})
	}
	return es
}

// changes are changes told as bidders, sets and asks in turn.
func changes(numbers ...int64) []delta.Change {
	var cs []delta.Change
	for i := 0; i < len(numbers); i += 3 {
		cs = append(cs, delta.Change{Bidder: int(numbers[i]), Entry: api.Entry{Set: uint64(numbers[i+1]), Ask: numbers[i+2]}})
	}
	return cs
}

// countOf is how many items a set has, found bit by bit.
func countOf(s uint64) int {
	n := 0
	for ; s > 0; s /= 2 {
		n += int(s % 2)
	}
	return n
}

// liesWithin tells whether all items of a are in b.
func liesWithin(a, b uint64) bool { return a|b == b }

// asks are all asks that were put, the greatest by each set: what a bidder's entries are held to.
type asks map[uint64]int64

func (m asks) ask(s uint64) int64 {
	var most int64
	for other, ask := range m {
		if liesWithin(other, s) {
			most = max(most, ask)
		}
	}
	return most
}

// put lets an ask be asked, if it may be and is more.
func (m asks) put(e api.Entry) {
	if e.Set != 0 && e.Ask <= top && m.ask(e.Set) < e.Ask {
		m[e.Set] = e.Ask
	}
}

// tight are the entries of which each asks more than all that lies within it, in order.
func (m asks) tight() []api.Entry {
	var es []api.Entry
	for s, ask := range m {
		beaten := false
		for other, more := range m {
			beaten = beaten || other != s && liesWithin(other, s) && more >= ask
		}
		if !beaten {
			es = append(es, api.Entry{Set: s, Ask: ask})
		}
	}
	slices.SortFunc(es, func(a, b api.Entry) int {
		if n := countOf(a.Set) - countOf(b.Set); n != 0 {
			return n
		}
		if a.Set < b.Set {
			return -1
		}
		return 1
	})
	return es
}

// modelOf is what a book asks, bidder by bidder.
func modelOf(b book) []asks {
	var ms []asks
	for _, es := range b {
		m := asks{}
		for _, e := range es {
			m.put(e)
		}
		ms = append(ms, m)
	}
	return ms
}

// at is what is asked of a bidder: nothing, of one that there isn't.
func at(ms []asks, bidder int) asks {
	if bidder < len(ms) {
		return ms[bidder]
	}
	return asks{}
}

// tightOf is a book told by tight entries.
func tightOf(b book) book {
	var tight book
	for _, m := range modelOf(b) {
		tight = append(tight, m.tight())
	}
	return tight
}

// diffOf is what has risen between two books.
func diffOf(old, now book) []delta.Change {
	var cs []delta.Change
	was := modelOf(old)
	for bidder, es := range tightOf(now) {
		for _, e := range es {
			if at(was, bidder).ask(e.Set) < e.Ask {
				cs = append(cs, delta.Change{Bidder: bidder, Entry: e})
			}
		}
	}
	return cs
}

// applyOf is a book with changes put.
func applyOf(old book, cs []delta.Change) book {
	ms := modelOf(old)
	for _, c := range cs {
		if c.Bidder < 0 || c.Bidder > 63 {
			continue
		}
		for len(ms) <= c.Bidder {
			ms = append(ms, asks{})
		}
		ms[c.Bidder].put(c.Entry)
	}
	var b book
	for _, m := range ms {
		b = append(b, m.tight())
	}
	return b
}

// sumOf is what all asks of a book come to, if that is less than may be told.
func sumOf(b book) int64 {
	var total int64
	for _, es := range tightOf(b) {
		for _, e := range es {
			total += min(e.Ask, big)
		}
	}
	return total
}

// numberOf is a whole number as bytes.
func numberOf(n uint64) []byte {
	var b []byte
	for ; n > 127; n /= 128 {
		b = append(b, byte(n%128)+128)
	}
	return append(b, byte(n))
}

// bytesOf are changes as bytes.
func bytesOf(cs []delta.Change) []byte {
	b := numberOf(uint64(len(cs)))
	for _, c := range cs {
		ask := 2 * uint64(c.Entry.Ask)
		if c.Entry.Ask < 0 {
			ask = 2*uint64(-(c.Entry.Ask+1)) + 1
		}
		b = slices.Concat(b, numberOf(uint64(max(c.Bidder, 0))), numberOf(c.Entry.Set), numberOf(ask))
	}
	return b
}

// sameBook tells whether two books have the same lists for as many bidders.
func sameBook(a, b book) bool { return slices.EqualFunc(a, b, slices.Equal[[]api.Entry]) }

// checkBook: a book is what it should be.
func checkBook(t *testing.T, what string, got, want book) {
	t.Helper()
	if !sameBook(got, want) {
		t.Errorf("%s: %v, not %v", what, got, want)
	}
}

// checkChanges: changes are what they should be.
func checkChanges(t *testing.T, what string, got, want []delta.Change) {
	t.Helper()
	if !slices.Equal(got, want) {
		t.Errorf("%s: %v, not %v", what, got, want)
	}
}

// checkRead: bytes are refused with an error, and nothing beside it.
func checkRead(t *testing.T, b []byte, want api.Errno) {
	t.Helper()
	if cs, e := delta.Read(b); e != want || len(cs) != 0 {
		t.Errorf("% x: %v, error %d, not %d", b[:min(len(b), 40)], cs, e, want)
	}
}

// oneOf is an entry at random: of few items or of many, of few asks or of many, one that may be or not.
func oneOf(rnd *rand.Rand, items int, most int64) api.Entry {
	e := api.Entry{Set: rnd.Uint64() >> (64 - items), Ask: 1 + rnd.Int64N(most)}
	if rnd.IntN(3) == 0 {
		e.Set &= rnd.Uint64()
	}
	switch rnd.IntN(20) {
	case 0:
		e.Set = 0
	case 1:
		e.Ask = []int64{0, -1, math.MinInt64, -top, top + 1, math.MaxInt64}[rnd.IntN(6)]
	case 2:
		e.Ask = []int64{1, big - 1, big, big + 1, top - 1, top}[rnd.IntN(6)]
	}
	return e
}

// bookOf is a book at random; its lists need not be tight.
func bookOf(rnd *rand.Rand) book {
	var b book
	items, most := 1+rnd.IntN(5), int64(1+rnd.IntN(12))
	if rnd.IntN(5) == 0 {
		items, most = 64, top
	}
	for range rnd.IntN(5) {
		var es []api.Entry
		for range rnd.IntN(9) {
			es = append(es, oneOf(rnd, items, most))
		}
		b = append(b, es)
	}
	return b
}

// riseOf is a book at random in which nothing less is asked than in another one.
func riseOf(rnd *rand.Rand, old book) book {
	b := slices.Clone(old)
	for range rnd.IntN(3) {
		b = append(b, nil)
	}
	for i, es := range b {
		for range rnd.IntN(4) {
			es = append(slices.Clone(es), oneOf(rnd, 5, 15))
		}
		b[i] = es
	}
	return b
}

// changesOf are changes at random, for any bidders.
func changesOf(rnd *rand.Rand, n int) []delta.Change {
	var cs []delta.Change
	for range n {
		bidder := rnd.IntN(6)
		if rnd.IntN(12) == 0 {
			bidder = []int{-1, math.MinInt, 63, 64, 65, 1 << 32, math.MaxInt}[rnd.IntN(7)]
		}
		cs = append(cs, delta.Change{Bidder: bidder, Entry: oneOf(rnd, 5, 12)})
	}
	return cs
}

// soon fails a test in which a call doesn't end.
func soon(t *testing.T, what string, do func()) {
	t.Helper()
	done := make(chan struct{})
	go func() {
		defer close(done)
		do()
	}()
	select {
	case <-done:
	case <-time.After(30 * time.Second):
		t.Fatalf("%s doesn't end", what)
	}
}

// P12.1: the document's example.
func TestExample(t *testing.T) {
	old, now := book{entries(1, 3)}, book{entries(1, 3, 2, 2)}
	checkChanges(t, "Diff", delta.Diff(old, now), changes(0, 2, 2))
	checkBook(t, "Apply", delta.Apply(old, changes(0, 2, 2)), now)
	if !delta.Rose(old, now) || delta.Rose(now, old) {
		t.Error("Rose")
	}
}

// P12.1: what has risen, by hand.
func TestDiffByHand(t *testing.T) {
	for i, r := range []struct {
		old, now book
		want     []delta.Change
	}{
		{nil, nil, nil}, {book{}, book{nil, {}}, nil}, {book{entries(1, 5)}, nil, nil}, {book{entries(1, 5)}, book{}, nil}, {book{entries(1, 5)}, book{nil}, nil},
		{nil, book{entries(1, 5)}, changes(0, 1, 5)}, {book{nil}, book{entries(1, 5)}, changes(0, 1, 5)}, {nil, book{nil, nil, entries(1, 5)}, changes(2, 1, 5)},
		{book{entries(1, 5)}, book{entries(1, 5)}, nil}, {book{entries(1, 5)}, book{entries(1, 4)}, nil}, {book{entries(1, 5)}, book{entries(1, 6)}, changes(0, 1, 6)}, {book{entries(1, top-1)}, book{entries(1, top)}, changes(0, 1, top)},
		{book{entries(1, 5)}, book{entries(3, 5)}, nil}, {book{entries(1, 5)}, book{entries(3, 6)}, changes(0, 3, 6)}, {book{entries(3, 5)}, book{entries(1, 1)}, changes(0, 1, 1)}, // what lies within asks, too
		{book{entries(1, 5, 2, 4)}, book{entries(1, 5, 2, 6, 4, 1, 3, 8, 5, 5)}, changes(0, 2, 6, 0, 4, 1, 0, 3, 8)},
		{book{entries(1, 5), entries(2, 5)}, book{entries(2, 5), entries(1, 5), entries(4, 5)}, changes(0, 2, 5, 1, 1, 5, 2, 4, 5)},
		{book{nil, entries(1, 5)}, book{entries(1, 5), nil, entries(1, 5)}, changes(0, 1, 5, 2, 1, 5)},
		{nil, book{entries(3, 8, 1, 5, 3, 7, 1, 4, 0, 9, 2, 0, 4, top+1, 8, -1)}, changes(0, 1, 5, 0, 3, 8)}, // lists that aren't tight
		{nil, book{entries(3, 5, 1, 5)}, changes(0, 1, 5)}, {book{entries(3, 5, 1, 5)}, book{entries(7, 5, 5, 6)}, changes(0, 5, 6)}, {book{entries(0, 9, 1, top+1)}, book{entries(1, 1)}, changes(0, 1, 1)},
		{nil, book{entries(-1, 9, math.MinInt64, 5, 1, 1)}, changes(0, 1, 1, 0, math.MinInt64, 5, 0, -1, 9)},
	} {
		if got := delta.Diff(r.old, r.now); !slices.Equal(got, r.want) {
			t.Errorf("%d: %v, not %v", i, got, r.want)
		}
	}
}

// P12.1: a book with changes, by hand: how many bidders it has, and what is asked of each.
func TestApplyByHand(t *testing.T) {
	for i, r := range []struct {
		old  book
		cs   []delta.Change
		want book
	}{
		{nil, nil, nil}, {book{}, []delta.Change{}, nil}, {book{nil, {}}, nil, make(book, 2)}, {book{entries(1, 5)}, nil, book{entries(1, 5)}},
		{nil, changes(0, 1, 5), book{entries(1, 5)}}, {nil, changes(2, 1, 5), book{nil, nil, entries(1, 5)}}, {nil, changes(2, 1, 5, 0, 2, 7), book{entries(2, 7), nil, entries(1, 5)}}, {book{entries(1, 5)}, changes(1, 2, 3), book{entries(1, 5), entries(2, 3)}},
		{nil, changes(-1, 1, 5), nil}, {nil, changes(64, 1, 5), nil}, {nil, changes(math.MaxInt, 1, 5, math.MinInt, 1, 5, 65, 1, 5, 1<<32, 1, 5), nil}, {book{entries(1, 5)}, changes(-1, 1, 9, 64, 1, 9), book{entries(1, 5)}},
		{nil, changes(1, 0, 5), make(book, 2)}, {nil, changes(2, 1, 0), make(book, 3)}, {nil, changes(0, 1, top+1, 3, 1, -1), make(book, 4)}, {book{entries(1, 5)}, changes(1, 0, 0), book{entries(1, 5), nil}}, // a change that isn't put is of a bidder, too
		{nil, changes(-1, 1, 5, 64, 1, 5, 2, 1, 5), book{nil, nil, entries(1, 5)}}, {nil, changes(63, 1, 5), append(make(book, 63), entries(1, 5))},
		{book{entries(1, 5)}, changes(0, 1, 4), book{entries(1, 5)}}, {book{entries(1, 5)}, changes(0, 1, 5), book{entries(1, 5)}}, {book{entries(1, 5)}, changes(0, 1, 6), book{entries(1, 6)}}, {book{entries(1, 5)}, changes(0, 3, 5), book{entries(1, 5)}}, {book{entries(1, 5)}, changes(0, 1, 7, 0, 1, 6), book{entries(1, 7)}},
		{book{entries(1, 5, 3, 8)}, changes(0, 1, 8), book{entries(1, 8)}}, {book{entries(1, 5, 3, 8)}, changes(0, 2, 8, 0, 4, 1), book{entries(1, 5, 2, 8, 4, 1)}}, {book{entries(1, 5, 3, 8)}, changes(0, 1, 7, 0, 3, 9, 0, 1, 9), book{entries(1, 9)}},
		{book{entries(3, 8, 1, 5, 3, 7, 0, 9, 4, top+1)}, nil, book{entries(1, 5, 3, 8)}}, {book{entries(3, 5, 1, 5)}, changes(0, 2, 4), book{entries(1, 5, 2, 4)}}, {book{nil, entries(2, 0)}, nil, make(book, 2)}, // lists that aren't tight
		{book{entries(1, 5)}, changes(0, 1, top, 0, 1, top+1), book{entries(1, top)}},
	} {
		if got := delta.Apply(r.old, r.cs); !sameBook(got, r.want) {
			t.Errorf("%d: %v, not %v", i, got, r.want)
		}
	}
}

// P12.1: of a book of more than 64 bidders all are there, but no change of those behind the 64th counts.
func TestApplyToManyBidders(t *testing.T) {
	old := slices.Repeat(book{entries(1, 5)}, 70)
	want := slices.Clone(old)
	checkBook(t, "without a change", delta.Apply(old, nil), want)
	want[0], want[63] = entries(1, 5, 2, 6), entries(1, 9)
	checkBook(t, "with changes", delta.Apply(old, changes(64, 1, 9, 0, 2, 6, 69, 1, 9, 63, 1, 9, 70, 1, 9, 100, 1, 9)), want)
}

// P12.1: whether nothing less is asked, by hand.
func TestRoseByHand(t *testing.T) {
	for i, r := range []struct {
		old, now book
		want     bool
	}{
		{nil, nil, true}, {nil, book{}, true}, {book{nil, {}}, nil, true}, {nil, book{nil, {}}, true}, {nil, book{entries(1, 5)}, true}, {book{nil}, book{nil, entries(1, 5)}, true},
		{book{entries(1, 5)}, nil, false}, {book{entries(1, 5)}, book{nil}, false}, {book{nil, entries(1, 1)}, book{nil}, false}, {book{entries(1, 5), nil}, book{entries(1, 5)}, true},
		{book{entries(1, 5)}, book{entries(1, 5)}, true}, {book{entries(1, 5)}, book{entries(1, 4)}, false}, {book{entries(1, 5)}, book{entries(1, 6)}, true}, {book{entries(1, top)}, book{entries(1, top-1)}, false},
		{book{entries(3, 5)}, book{entries(1, 5)}, true}, {book{entries(1, 5)}, book{entries(3, 5)}, false}, {book{entries(3, 5)}, book{entries(1, 4, 2, 4)}, false}, {book{entries(3, 5)}, book{entries(2, 7)}, true},
		{book{entries(1, 5, 2, 4, 3, 8)}, book{entries(1, 5, 2, 3, 3, 9)}, false}, {book{entries(1, 5, 2, 4, 3, 8)}, book{entries(1, 6, 2, 4, 3, 7)}, false}, {book{entries(1, 5, 2, 4, 3, 8)}, book{entries(1, 8, 2, 4)}, true},
		{book{entries(1, 5), entries(1, 5)}, book{entries(1, 9), entries(1, 4)}, false}, {book{entries(1, 5), entries(2, 5)}, book{entries(2, 5), entries(1, 5)}, false}, {book{entries(1, 5), entries(2, 5)}, book{entries(1, 5, 2, 5), entries(2, 6), entries(4, 1)}, true},
		{book{entries(0, 9, 1, top+1, 2, -3)}, nil, true}, {book{entries(3, 4, 1, 5)}, book{entries(7, 2, 1, 3, 1, 5)}, true}, {book{entries(1, 5)}, book{entries(1, top+1)}, false}, {book{entries(0, 9)}, book{entries(0, 8)}, true}, // lists that aren't tight
	} {
		if got := delta.Rose(r.old, r.now); got != r.want {
			t.Errorf("%d: %v and %v: %v", i, r.old, r.now, got)
		}
	}
}

// P12.1: a bidder behind the 64th is one as others, for what is asked of it.
func TestManyBidders(t *testing.T) {
	old := slices.Repeat(book{entries(1, 5)}, 70)
	now := slices.Clone(old)
	now[69] = entries(1, 4)
	if delta.Rose(old, now) || !delta.Rose(now, old) || !delta.Rose(old, old) || delta.Rose(old, old[:69]) {
		t.Error("Rose of 70 bidders")
	}
	checkChanges(t, "Diff of 70 bidders", delta.Diff(now, old), changes(69, 1, 5))
	if got := delta.Sum(old); got != 350 {
		t.Errorf("the sum of 70 bidders is %d", got)
	}
}

// P12.1: all answers about two books, at random.
func TestBooksAtRandom(t *testing.T) {
	rnd := rand.New(rand.NewPCG(1, 12))
	rose := 0
	for range 4000 {
		old, now := bookOf(rnd), bookOf(rnd)
		if rnd.IntN(2) == 0 {
			now = riseOf(rnd, old)
		}
		checkChanges(t, "Diff", delta.Diff(old, now), diffOf(old, now))
		cs := changesOf(rnd, rnd.IntN(8))
		checkBook(t, "Apply", delta.Apply(old, cs), applyOf(old, cs))
		if got := delta.Rose(old, now); got != roseBySets(rnd, old, now) {
			t.Errorf("Rose is %v", got)
		} else if got {
			rose++
		}
		if got := delta.Sum(now); got != sumOf(now) {
			t.Errorf("the sum is %d, not %d", got, sumOf(now))
		}
		if t.Failed() {
			t.Fatalf("of %v and %v, changes %v", old, now, cs)
		}
	}
	if rose < 500 || rose > 3500 {
		t.Errorf("nothing less is asked in %d books", rose)
	}
}

// roseBySets tells whether nothing less is asked, of all sets of few items and of some of many.
func roseBySets(rnd *rand.Rand, old, now book) bool {
	was, is := modelOf(old), modelOf(now)
	for bidder, m := range was {
		for s := range uint64(32) {
			if at(is, bidder).ask(s) < m.ask(s) {
				return false
			}
		}
		for s := range m {
			other := s | rnd.Uint64()
			if at(is, bidder).ask(s) < m.ask(s) || at(is, bidder).ask(other) < m.ask(other) {
				return false
			}
		}
	}
	return true
}

// P12.2: where nothing less is asked, the old book with what has risen is the book now; and that has risen no more.
func TestRisenIsApplied(t *testing.T) {
	rnd := rand.New(rand.NewPCG(2, 12))
	rose := 0
	for range 4000 {
		old := bookOf(rnd)
		now := riseOf(rnd, old)
		if rnd.IntN(3) == 0 {
			now = bookOf(rnd)
		}
		if !delta.Rose(old, now) {
			continue
		}
		rose++
		cs := delta.Diff(old, now)
		want := tightOf(now)
		for len(want) > len(old) && len(want[len(want)-1]) == 0 { // of such a bidder nothing has risen
			want = want[:len(want)-1]
		}
		got := delta.Apply(old, cs)
		if len(got) > len(want) { // the old book has bidders of whom nothing is asked
			want = append(want, make(book, len(got)-len(want))...)
		}
		checkBook(t, "applied", got, want)
		if more := delta.Diff(got, now); len(more) != 0 || !delta.Rose(now, got) {
			t.Errorf("what has risen since is %v", more)
		}
		if t.Failed() {
			t.Fatalf("of %v and %v", old, now)
		}
	}
	if rose < 1000 {
		t.Errorf("only %d rose", rose)
	}
}

// P12.1: the sum, by hand: of each ask at most 2^40, of all at most 2^47.
func TestSum(t *testing.T) {
	var most []api.Entry // of each item the most
	for i := range 64 {
		most = append(most, api.Entry{Set: 1 << i, Ask: big})
	}
	least := slices.Clone(most)
	least[5].Ask--
	for i, r := range []struct {
		b    book
		want int64
	}{
		{nil, 0}, {book{}, 0}, {book{nil, {}, nil}, 0}, {book{entries(1, 5)}, 5}, {book{entries(1, 5, 3, 8), nil, entries(1, 5)}, 18},
		{book{entries(1, big)}, big}, {book{entries(1, big+1)}, big}, {book{entries(1, top)}, big}, {book{entries(1, big-1)}, big - 1}, {book{entries(1, big-1, 3, top), entries(1, 1)}, 2 * big},
		{book{entries(3, 8, 1, 5, 3, 7, 1, 4)}, 13}, {book{entries(3, 5, 1, 5)}, 5}, {book{entries(0, 9, 1, -5, 2, top+1, 4, math.MaxInt64, 8, math.MinInt64)}, 0}, {book{entries(1, 5, 1, 5), entries(1, 6, 1, 5)}, 11}, // lists that aren't tight
		{book{most}, sum / 2}, {book{most, most}, sum}, {book{most, least}, sum - 1}, {book{most, most, entries(1, 1)}, sum}, {book{most, least, entries(1, 1)}, sum}, {book{most, least, entries(1, 2)}, sum}, {book{most, most, most}, sum}, {book{entries(1, 7), least, least}, sum},
		{slices.Repeat(book{most}, 70), sum}, {book{slices.Repeat(most, 50)}, sum / 2},
	} {
		if got := delta.Sum(r.b); got != r.want {
			t.Errorf("%d: %d, not %d", i, got, r.want)
		}
	}
}

// P12.1: a sum doesn't go round, however many entries there are.
func TestSumOfMany(t *testing.T) {
	if testing.Short() {
		t.Skip("takes some seconds")
	}
	var es []api.Entry
	for i := range 64 {
		es = append(es, api.Entry{Set: 1 << i, Ask: top})
	}
	many := slices.Repeat(book{es}, 1<<17) // 2^23 times 2^40 is 2^63
	soon(t, "Sum", func() {
		if got := delta.Sum(many); got != sum {
			t.Errorf("%d, not %d", got, sum)
		}
	})
}

// P12.1, P12.3: changes as bytes, by hand.
func TestWriteByHand(t *testing.T) {
	for i, r := range []struct {
		cs   []delta.Change
		want string
	}{
		{nil, "\x00"}, {[]delta.Change{}, "\x00"}, {changes(0, 1, 1), "\x01\x00\x01\x02"}, {changes(0, 2, 2), "\x01\x00\x02\x04"}, {changes(5, 3, 8, 1, 300, 150), "\x02\x05\x03\x10\x01\xAC\x02\xAC\x02"},
		{changes(0, 0, 0), "\x01\x00\x00\x00"}, {changes(0, 0, -1), "\x01\x00\x00\x01"}, {changes(0, 1, 64), "\x01\x00\x01\x80\x01"}, {changes(0, 1, -65), "\x01\x00\x01\x81\x01"},
		{changes(-1, 1, 1), "\x01\x00\x01\x02"}, {changes(math.MinInt, 1, 1), "\x01\x00\x01\x02"}, {changes(63, 1, 1), "\x01\x3F\x01\x02"}, {changes(64, 1, 1), "\x01\x40\x01\x02"}, {changes(300, 1, 1), "\x01\xAC\x02\x01\x02"},
		{changes(math.MaxInt, 1, 1), "\x01\xFF\xFF\xFF\xFF\xFF\xFF\xFF\xFF\x7F\x01\x02"}, {changes(0, -1, math.MinInt64), "\x01\x00\xFF\xFF\xFF\xFF\xFF\xFF\xFF\xFF\xFF\x01\xFF\xFF\xFF\xFF\xFF\xFF\xFF\xFF\xFF\x01"},
		{changes(0, math.MinInt64, math.MaxInt64), "\x01\x00\x80\x80\x80\x80\x80\x80\x80\x80\x80\x01\xFE\xFF\xFF\xFF\xFF\xFF\xFF\xFF\xFF\x01"}, {changes(0, 1, top), "\x01\x00\x01\x80\x80\x80\x80\x80\x80\x01"},
	} {
		if got := delta.Write(r.cs); string(got) != r.want {
			t.Errorf("%d: % x, not % x", i, got, r.want)
		}
	}
}

// P12.1, P12.3: bytes that are changes, and bytes that are none, by hand: layer 5's errors come first.
func TestReadByHand(t *testing.T) {
	for text, want := range map[string][]delta.Change{
		"\x00": nil, "\x01\x00\x01\x02": changes(0, 1, 1), "\x02\x05\x03\x10\x01\xAC\x02\xAC\x02": changes(5, 3, 8, 1, 300, 150), "\x01\x3F\x01\x02": changes(63, 1, 1), "\x01\x00\x00\x01": changes(0, 0, -1), "\x02\x01\x03\x02\x00\x01\x02": changes(1, 3, 1, 0, 1, 1),
		"\x01\x00\xFF\xFF\xFF\xFF\xFF\xFF\xFF\xFF\xFF\x01\xFF\xFF\xFF\xFF\xFF\xFF\xFF\xFF\xFF\x01": changes(0, -1, math.MinInt64), "\x02\x00\x01\x02\x00\x01\x02": changes(0, 1, 1, 0, 1, 1),
	} {
		cs, e := delta.Read([]byte(text))
		if e != api.OK {
			t.Errorf("% x: error %d", text, e)
		}
		checkChanges(t, "Read", cs, want)
	}
	for text, want := range map[string]api.Errno{
		"": api.ErrShort, "\x01": api.ErrShort, "\x01\x00": api.ErrShort, "\x01\x00\x01": api.ErrShort, "\x02\x00\x01\x02": api.ErrShort, "\x02\x00\x01\x02\x00": api.ErrShort, "\x80": api.ErrShort, "\x01\x80": api.ErrShort, "\x01\x00\x01\xFF": api.ErrShort, "\x80\x20": api.ErrShort,
		"\x81\x20": api.ErrMany, "\x80\x40": api.ErrMany, "\xFF\xFF\xFF\xFF\xFF\xFF\xFF\xFF\xFF\x01": api.ErrMany, "\x81\x20\x00\x01\x02": api.ErrMany,
		"\x80\x00": api.ErrForm, "\x01\x80\x00\x01\x02": api.ErrForm, "\x01\x00\x81\x00\x02": api.ErrForm, "\x01\x00\x01\x82\x00": api.ErrForm, "\x01\xFF\xFF\xFF\xFF\xFF\xFF\xFF\xFF\xFF\x02\x01\x02": api.ErrForm, "\x01\x00\x80\x80\x80\x80\x80\x80\x80\x80\x80\x80\x01\x02": api.ErrForm, // no whole number
		"\x00\x00": api.ErrForm, "\x01\x00\x01\x02\x00": api.ErrForm, "\x01\x00\x01\x02\x00\x01\x02": api.ErrForm, // some are left
		"\x01\x40\x01\x02": api.ErrForm, "\x01\x7F\x01\x02": api.ErrForm, "\x01\x80\x01\x01\x02": api.ErrForm, "\x02\x00\x01\x02\x40\x01\x02": api.ErrForm, "\x02\x40\x01\x02\x00\x01\x02": api.ErrForm, // a bidder above 63
		"\x01\x80\x80\x80\x80\x10\x01\x02": api.ErrForm, "\x01\x80\x80\x80\x80\x80\x80\x80\x80\x80\x01\x01\x02": api.ErrForm, "\x01\xFF\xFF\xFF\xFF\xFF\xFF\xFF\xFF\xFF\x01\x01\x02": api.ErrForm, "\x01\x81\x80\x80\x80\x80\x80\x80\x80\x80\x01\x01\x02": api.ErrForm, "\x01\xFF\xFF\xFF\xFF\xFF\xFF\xFF\xFF\x7F\x01\x02": api.ErrForm, // a bidder that is no int of 32 bits, or of 64
		"\x01\x40": api.ErrShort, "\x01\x40\x01": api.ErrShort, "\x02\x40\x01\x02": api.ErrShort, "\x02\x40\x01\x02\x00\x01": api.ErrShort, "\x01\xFF\xFF\xFF\xFF\xFF\xFF\xFF\xFF\xFF\x01\x01": api.ErrShort, // a bidder above 63, but short first
	} {
		checkRead(t, []byte(text), want)
	}
	checkRead(t, nil, api.ErrShort)
}

// P12.1, P12.3: as many changes as may be are read, and not one more; that they are too many is told first.
func TestReadOfMany(t *testing.T) {
	rnd := rand.New(rand.NewPCG(3, 12))
	var cs []delta.Change
	for i := range 64 * 64 {
		cs = append(cs, delta.Change{Bidder: i / 64, Entry: api.Entry{Set: rnd.Uint64(), Ask: rnd.Int64()}})
	}
	got, e := delta.Read(delta.Write(cs))
	if e != api.OK || !slices.Equal(got, cs) {
		t.Errorf("of 4096 changes: error %d, %d", e, len(got))
	}
	b := delta.Write(append(cs, delta.Change{}))
	checkRead(t, b, api.ErrMany)
	checkRead(t, b[:2], api.ErrMany)
	checkRead(t, append(b, 0), api.ErrMany)
	cs[0].Bidder = 64
	checkRead(t, delta.Write(cs), api.ErrForm)
	checkRead(t, delta.Write(cs)[:9000], api.ErrShort)
}

// P12.3: what is written is read as it, up to its last byte.
func TestWrittenIsRead(t *testing.T) {
	rnd := rand.New(rand.NewPCG(4, 12))
	for n := range 500 {
		var cs []delta.Change
		for range n % 12 {
			c := delta.Change{Bidder: rnd.IntN(64), Entry: oneOf(rnd, 64, top)}
			if rnd.IntN(3) == 0 {
				c.Entry = api.Entry{Set: rnd.Uint64() >> rnd.IntN(64), Ask: int64(rnd.Uint64()) >> rnd.IntN(64)}
			}
			cs = append(cs, c)
		}
		b := delta.Write(cs)
		if !bytes.Equal(b, bytesOf(cs)) {
			t.Errorf("%v is written as % x", cs, b)
		}
		got, e := delta.Read(b)
		if e != api.OK || !slices.Equal(got, cs) {
			t.Errorf("%v is read as %v, error %d", cs, got, e)
		}
		for n := range b {
			checkRead(t, b[:n], api.ErrShort)
		}
		checkRead(t, append(slices.Clone(b), 0), api.ErrForm)
	}
}

// P12.3: whatever bytes are read are written as the same bytes; all others are an error.
func TestReadIsWritten(t *testing.T) {
	rnd := rand.New(rand.NewPCG(5, 12))
	read := 0
	for range 200000 {
		b := []byte{byte(rnd.IntN(4))}
		for range 3*int(b[0]) + rnd.IntN(6)/5 {
			b = append(b, byte(rnd.IntN(70)))
			if rnd.IntN(20) == 0 {
				b[len(b)-1] += 128
			}
		}
		cs, e := delta.Read(b)
		if e != api.OK {
			if len(cs) != 0 || e != api.ErrForm && e != api.ErrShort {
				t.Fatalf("% x: %v, error %d", b, cs, e)
			}
			continue
		}
		read++
		if !bytes.Equal(delta.Write(cs), b) {
			t.Fatalf("% x is written as % x", b, delta.Write(cs))
		}
		if slices.ContainsFunc(cs, func(c delta.Change) bool { return c.Bidder < 0 || c.Bidder > 63 }) {
			t.Fatalf("% x is read as %v", b, cs)
		}
	}
	if read < 1000 {
		t.Errorf("only %d were read", read)
	}
}

// P12.1: what has risen, from book to book: since nothing, and then since the one ahead.
func TestStepsByHand(t *testing.T) {
	first, second, third := book{entries(1, 3)}, book{entries(1, 4, 2, 2), entries(4, 1)}, book{entries(1, 4)}
	for i, r := range []struct {
		books []book
		want  [][]delta.Change
	}{
		{nil, nil}, {[]book{nil}, [][]delta.Change{nil}}, {[]book{nil, {}, {nil}}, make([][]delta.Change, 3)}, {[]book{first}, [][]delta.Change{changes(0, 1, 3)}},
		{[]book{first, second, second}, [][]delta.Change{changes(0, 1, 3), changes(0, 1, 4, 0, 2, 2, 1, 4, 1), nil}}, {[]book{second, third, first, second}, [][]delta.Change{changes(0, 1, 4, 0, 2, 2, 1, 4, 1), nil, nil, changes(0, 1, 4, 0, 2, 2, 1, 4, 1)}},
		{[]book{first, nil, first}, [][]delta.Change{changes(0, 1, 3), nil, changes(0, 1, 3)}}, {[]book{third, {entries(3, 5, 1, 2, 0, 9)}}, [][]delta.Change{changes(0, 1, 4), changes(0, 3, 5)}},
	} {
		got := slices.Collect(delta.Steps(r.books...))
		if !slices.EqualFunc(got, r.want, slices.Equal[[]delta.Change]) {
			t.Errorf("%d: %v, not %v", i, got, r.want)
		}
	}
}

// booksOf are books at random, most of which rise.
func booksOf(rnd *rand.Rand, n int) []book {
	books := []book{bookOf(rnd)}
	for range n {
		b := riseOf(rnd, books[len(books)-1])
		if rnd.IntN(4) == 0 {
			b = bookOf(rnd)
		}
		books = append(books, b)
	}
	return books
}

// P12.1, P12.2: steps at random are what Diff tells; where nothing falls they lead, one by one, to each book.
func TestStepsAtRandom(t *testing.T) {
	rnd := rand.New(rand.NewPCG(6, 12))
	for range 500 {
		books := booksOf(rnd, rnd.IntN(6))
		var old, led book
		rose, n := true, 0
		for step := range delta.Steps(books...) {
			now := books[n]
			checkChanges(t, "a step", step, diffOf(old, now))
			checkChanges(t, "Diff", delta.Diff(old, now), step)
			led, rose = delta.Apply(led, step), rose && delta.Rose(old, now)
			if rose && (!delta.Rose(led, now) || !delta.Rose(now, led)) {
				t.Errorf("led to %v, not %v", led, now)
			}
			old, n = now, n+1
		}
		if n != len(books) {
			t.Errorf("%d steps of %d books", n, len(books))
		}
	}
}

// P12.1: steps come as long as more is asked for, and may be gone over again, within themselves too.
func TestStepsAgain(t *testing.T) {
	books := []book{{entries(1, 3)}, {entries(1, 4, 2, 2), entries(4, 1)}, {entries(1, 4, 2, 5)}, nil}
	want := [][]delta.Change{changes(0, 1, 3), changes(0, 1, 4, 0, 2, 2, 1, 4, 1), changes(0, 2, 5), nil}
	same := func(a, b [][]delta.Change) bool { return slices.EqualFunc(a, b, slices.Equal[[]delta.Change]) }
	seq := delta.Steps(books...)
	for n := range len(want) {
		var got [][]delta.Change
		seq(func(cs []delta.Change) bool {
			if len(got) > n {
				t.Error("it goes on when no more is asked for")
			}
			got = append(got, cs)
			return len(got) <= n
		})
		if !same(got, want[:n+1]) {
			t.Errorf("the first ones: %v", got)
		}
	}
	for range seq {
		if got := slices.Collect(seq); !same(got, want) {
			t.Errorf("within itself: %v", got)
		}
	}
}

// roomy is a book whose lists have room behind their lengths, and that has so itself; whole tells all of it.
func roomy(b book) (got book, whole func() book) {
	var rooms book
	for _, es := range b {
		rooms = append(rooms, append(slices.Clone(es), entries(5, 77, 0, 0, 1, 1)...))
	}
	for i, es := range b {
		got = append(got, rooms[i][:len(es)])
	}
	got = append(got, entries(9, 9), nil)[:len(b)]
	return got, func() book { return append(slices.Clone(rooms), got[:len(b)+2]...) }
}

// copyOf is a book in memory of its own.
func copyOf(b book) book {
	var lists book
	for _, es := range b {
		lists = append(lists, slices.Clone(es))
	}
	return lists
}

// P12.4: books that are handed in stay, the memory behind their lengths too.
func TestBooksStay(t *testing.T) {
	rnd := rand.New(rand.NewPCG(7, 12))
	for range 300 {
		old, wholeOld := roomy(bookOf(rnd))
		now, wholeNow := roomy(bookOf(rnd))
		cs := changesOf(rnd, 12)
		keptOld, keptNow, keptChanges := copyOf(wholeOld()), copyOf(wholeNow()), slices.Clone(cs)
		delta.Diff(old, now)
		delta.Apply(old, cs[:10])
		delta.Apply(now, cs[:10])
		delta.Rose(old, now)
		delta.Sum(old)
		delta.Write(cs[:10])
		for range delta.Steps(old, now, old) {
		}
		checkBook(t, "the old book", wholeOld(), keptOld)
		checkBook(t, "the book now", wholeNow(), keptNow)
		checkChanges(t, "changes", cs, keptChanges)
	}
	b := append(bytesOf(changes(0, 1, 5, 1, 2, 6)), 9, 9)
	kept := slices.Clone(b)
	delta.Read(b[:len(b)-2])
	if !bytes.Equal(b, kept) {
		t.Errorf("% x became % x", kept, b)
	}
}

// overwrite writes over a list, the memory behind its length too.
func overwrite[T any](all []T, with T) {
	all = all[:cap(all)]
	for i := range all {
		all[i] = with
	}
}

// overwriteBook writes over all lists of a book, and over the book.
func overwriteBook(b book) {
	for _, es := range b {
		overwrite(es, api.Entry{Set: 1 << 40, Ask: 77})
	}
	overwrite(b, entries(1, 1))
}

// P12.4: what is answered is new memory, spare room too, of which no two lists share any.
func TestAnswersAreNew(t *testing.T) {
	rnd := rand.New(rand.NewPCG(8, 12))
	for range 300 {
		old, now, cs := tightOf(bookOf(rnd)), tightOf(bookOf(rnd)), changesOf(rnd, 10)
		keptOld, keptNow, keptChanges := copyOf(old), copyOf(now), slices.Clone(cs)

		one, other := delta.Diff(old, now), delta.Diff(old, now)
		overwrite(one, delta.Change{Bidder: 9})
		checkChanges(t, "another Diff", other, diffOf(keptOld, keptNow))

		made, want := delta.Apply(old, cs), applyOf(keptOld, keptChanges)
		second := delta.Apply(old, cs)
		for i, es := range made {
			overwrite(es, api.Entry{Set: 1 << 40, Ask: 77})
			for j := i + 1; j < len(made); j++ {
				if !slices.Equal(made[j], want[j]) {
					t.Fatalf("the list of bidder %d is seen in that of bidder %d", i, j)
				}
			}
		}
		overwriteBook(made)
		checkBook(t, "another Apply", second, want)

		checkBook(t, "the old book", old, keptOld)
		checkBook(t, "the book now", now, keptNow)
		checkChanges(t, "changes", cs, keptChanges)

		b, again := delta.Write(cs), delta.Write(cs)
		overwrite(b, 1)
		if !bytes.Equal(again, bytesOf(cs)) {
			t.Errorf("another Write: % x", again)
		}
	}
}

// P12.4: a book of which nothing turns is answered in new memory, too.
func TestApplyOfNothing(t *testing.T) {
	old := book{entries(1, 5, 3, 8), nil, entries(2, 6)}
	overwriteBook(delta.Apply(old, nil))
	overwriteBook(delta.Apply(old, changes(0, 1, 4, -1, 1, 9)))
	checkBook(t, "the old book", old, book{entries(1, 5, 3, 8), nil, entries(2, 6)})
}

// The rules that hold everywhere: what is handed in may be written over behind the call, and while steps go on.
func TestHandedInMayBeWrittenOver(t *testing.T) {
	rnd := rand.New(rand.NewPCG(9, 12))
	for range 100 {
		books := booksOf(rnd, 4)
		for i := range books {
			books[i] = copyOf(books[i])
		}
		var want [][]delta.Change
		for i, b := range books {
			want = append(want, diffOf(slices.Concat(make([]book, 1), books)[i], b))
		}
		old, now, cs := copyOf(books[0]), copyOf(books[1]), changesOf(rnd, 9)
		applied := applyOf(old, cs)
		risen, led := delta.Diff(old, now), delta.Apply(old, cs)
		overwriteBook(old)
		overwriteBook(now)
		overwrite(cs, delta.Change{Bidder: 3, Entry: api.Entry{Set: 1, Ask: 1}})
		checkChanges(t, "Diff", risen, want[1])
		checkBook(t, "Apply", led, applied)

		seq := delta.Steps(books...)
		for _, b := range books[2:] {
			overwriteBook(b)
		}
		books[0] = nil
		var got [][]delta.Change
		for step := range seq {
			got = append(got, slices.Clone(step))
			overwrite(step, delta.Change{Bidder: 5})
			overwriteBook(books[1])
			clear(books)
			books[1] = book{entries(1, 1)}
		}
		got = append(got, slices.Collect(seq)...)
		if !slices.EqualFunc(got, slices.Concat(want, want), slices.Equal[[]delta.Change]) {
			t.Errorf("steps: %v, not %v, twice", got, want)
		}
	}
	b := delta.Write(changes(0, 1, 5, 1, 2, 6))
	cs, _ := delta.Read(b)
	overwrite(b, 1)
	checkChanges(t, "Read", cs, changes(0, 1, 5, 1, 2, 6))
}

// P1 of the whole: long lists end, too.
func TestLongLists(t *testing.T) {
	rnd := rand.New(rand.NewPCG(10, 12))
	var few, many []api.Entry
	for range 20000 {
		few = append(few, oneOf(rnd, 8, 1000))
	}
	for range 700 {
		many = append(many, oneOf(rnd, 64, top))
	}
	var cs []delta.Change
	for range 20000 {
		cs = append(cs, delta.Change{Bidder: rnd.IntN(80) - 8, Entry: oneOf(rnd, 6, 1000)})
	}
	soon(t, "a call of long lists", func() {
		b := book{few, nil, many}
		checkBook(t, "Apply to long lists", delta.Apply(b, nil), tightOf(b))
		checkBook(t, "Apply of many changes", delta.Apply(nil, cs), applyOf(nil, cs))
		if len(delta.Diff(b, b)) != 0 || !delta.Rose(b, b) || !delta.Rose(nil, b) || len(delta.Diff(nil, make(book, 100000))) != 0 {
			t.Error("Diff, Rose of long lists")
		}
		if got := delta.Write(cs); !bytes.Equal(got, bytesOf(cs)) {
			t.Error("many changes as bytes")
		}
		checkRead(t, make([]byte, 1<<24), api.ErrForm)
		checkRead(t, bytes.Repeat([]byte{255}, 1<<24), api.ErrShort)
	})
}

// P2 of the whole: the same arguments are answered the same.
func TestAnswersHangOnArguments(t *testing.T) {
	rnd := rand.New(rand.NewPCG(11, 12))
	for range 50 {
		old, now, cs := bookOf(rnd), bookOf(rnd), changesOf(rnd, 10)
		risen, led := delta.Diff(old, now), delta.Apply(old, cs)
		for range 5 {
			checkChanges(t, "Diff once more", delta.Diff(old, now), risen)
			checkBook(t, "Apply once more", delta.Apply(old, cs), led)
		}
	}
}
