// The tests of layer 21. Above each stands the promise that it holds the program to.
package round_test

import (
	"iter"
	"math"
	"math/rand/v2"
	"slices"
	"testing"
	"time"

	"saleroom/api"
	"saleroom/price"
	"saleroom/round"
	"saleroom/wdp"
	"saleroom/xor"
)

const big int64 = 1 << 40 // the greatest value, and the greatest eps

// atoms are atoms told as sets and values in turn.
func atoms(numbers ...int64) []api.Atom {
	var as []api.Atom
	for i := 0; i < len(numbers); i += 2 {
		as = append(as, api.Atom{Set: uint64(numbers[i]), Value: numbers[i+1]})
	}
	return as
}

// entries are entries told as sets and asks in turn.
func entries(numbers ...int64) []api.Entry {
	var es []api.Entry
	for _, a := range atoms(numbers...) {
		es = append(es, api.Entry{Set: a.Set, Ask: a.Value})
	}
	return es
}

// picks are picks told as bidders, sets and prices in turn.
func picks(numbers ...int64) []api.Pick {
	var ps []api.Pick
	for i := 0; i < len(numbers); i += 3 {
		ps = append(ps, api.Pick{Bidder: int(numbers[i]), Set: uint64(numbers[i+1]), Price: numbers[i+2]})
	}
	return ps
}

// given is what a floor is made of.
type given struct {
	atoms [][]api.Atom
	eps   int64
}

// floorOf is a floor of lists of atoms.
func floorOf(eps int64, lists ...[]api.Atom) *round.Floor { return given{lists, eps}.floor() }

func (g given) vals() []xor.Val {
	var vs []xor.Val
	for _, as := range g.atoms {
		vs = append(vs, xor.New(as))
	}
	return vs
}

func (g given) floor() *round.Floor { return round.New(g.vals(), g.eps) }

// atomsOf are the atoms of a valuation.
func atomsOf(v xor.Val) []api.Atom {
	var as []api.Atom
	for _, x := range v.Atoms() {
		as = append(as, x)
	}
	return as
}

// bidder is what an agent is held to: its atoms, in order, all asks that were put, and eps.
type bidder struct {
	atoms []api.Atom
	asks  []api.Entry
	eps   int64
}

func (b *bidder) ask(s uint64) int64 {
	var most int64
	for _, e := range b.asks {
		if e.Set|s == s && e.Ask > most {
			most = e.Ask
		}
	}
	return most
}

func (b *bidder) surplus(x api.Atom) int64 { return max(x.Value-b.ask(x.Set), 0) }

func (b *bidder) gives(x api.Atom) int64 { return min(x.Value, b.ask(x.Set)) }

func (b *bidder) best() int64 {
	var most int64
	for _, x := range b.atoms {
		most = max(most, b.surplus(x))
	}
	return most
}

func (b *bidder) bids() []api.Bid {
	var bs []api.Bid
	for _, x := range b.atoms {
		if b.best()-b.surplus(x) < b.eps {
			bs = append(bs, api.Bid{Set: x.Set, Price: b.gives(x)})
		}
	}
	return bs
}

func (b *bidder) rise() {
	var put []api.Entry
	for _, x := range b.atoms {
		if ask := b.ask(x.Set); b.best()-b.surplus(x) < b.eps && ask < x.Value {
			put = append(put, api.Entry{Set: x.Set, Ask: ask + b.eps})
		}
	}
	b.asks = append(b.asks, put...)
}

// model is what a floor is held to.
type model struct {
	bidders []*bidder
	round   int
	ended   bool
}

func (g given) model() *model {
	m := &model{}
	for _, v := range g.vals() {
		m.bidders = append(m.bidders, &bidder{atoms: atomsOf(v), eps: min(max(g.eps, 1), big)})
	}
	return m
}

func (m *model) clone() *model {
	c := &model{round: m.round, ended: m.ended}
	for _, b := range m.bidders {
		c.bidders = append(c.bidders, &bidder{b.atoms, slices.Clone(b.asks), b.eps})
	}
	return c
}

func (m *model) step() round.Outcome {
	if !m.ended {
		m.round++
	}
	var all [][]api.Bid
	for _, b := range m.bidders {
		all = append(all, b.bids())
	}
	best, total := assign(all, 0)
	o := round.Outcome{Round: m.round, Picks: best, Total: total}
	for i, b := range m.bidders {
		if has(best, i) {
			continue
		}
		if b.best() > 0 {
			o.Sad = append(o.Sad, i)
		} else {
			o.Out = append(o.Out, i)
		}
	}
	o.Ended = len(o.Sad) == 0
	m.ended = o.Ended
	for _, i := range o.Sad {
		m.bidders[i].rise()
	}
	return o
}

func (m *model) bound() int64 {
	var n int64
	for _, b := range m.bidders {
		n += (b.best() + b.eps - 1) / b.eps
	}
	return n
}

// has tells whether a bidder has a pick.
func has(ps []api.Pick, bidder int) bool {
	return slices.ContainsFunc(ps, func(p api.Pick) bool { return p.Bidder == bidder })
}

// assign is the first best assignment, with each tried: the first list's bids in order, then none of them, and of each all that may follow.
func assign(all [][]api.Bid, taken uint64) ([]api.Pick, int64) {
	return assignFrom(all, 0, taken)
}

func assignFrom(all [][]api.Bid, bidder int, taken uint64) ([]api.Pick, int64) {
	if bidder == len(all) {
		return nil, 0
	}
	var best []api.Pick
	total := int64(-1)
	for _, b := range all[bidder] {
		if b.Set&taken != 0 {
			continue
		}
		if ps, n := assignFrom(all, bidder+1, taken|b.Set); n+b.Price > total {
			best, total = append([]api.Pick{{Bidder: bidder, Set: b.Set, Price: b.Price}}, ps...), n+b.Price
		}
	}
	if ps, n := assignFrom(all, bidder+1, taken); n > total {
		best, total = ps, n
	}
	return best, total
}

// same tells whether two outcomes are the same.
func same(a, b round.Outcome) bool {
	return a.Round == b.Round && slices.Equal(a.Picks, b.Picks) && a.Total == b.Total && slices.Equal(a.Sad, b.Sad) && slices.Equal(a.Out, b.Out) && a.Ended == b.Ended
}

// checkOutcome: a round is what it should be.
func checkOutcome(t *testing.T, what string, got, want round.Outcome) {
	t.Helper()
	if !same(got, want) {
		t.Errorf("%s: %+v, not %+v", what, got, want)
	}
}

// checkOutcomes: rounds are what they should be.
func checkOutcomes(t *testing.T, what string, got, want []round.Outcome) {
	t.Helper()
	if !slices.EqualFunc(got, want, same) {
		t.Errorf("%s: %+v, not %+v", what, got, want)
	}
}

// checkFloor: a floor answers all that it is held to.
func checkFloor(t *testing.T, what string, f *round.Floor, m *model) {
	t.Helper()
	if f.Round() != m.round || f.Ended() != m.ended || f.Len() != len(m.bidders) || f.Bound() != m.bound() {
		t.Errorf("%s: round %d, ended %v, %d agents, bound %d, not %d, %v, %d, %d", what, f.Round(), f.Ended(), f.Len(), f.Bound(), m.round, m.ended, len(m.bidders), m.bound())
	}
	book := f.Book()
	if len(book) != len(m.bidders) {
		t.Fatalf("%s: a book of %d agents, not %d", what, len(book), len(m.bidders))
	}
	for i, b := range m.bidders {
		want := price.Of(b.asks)
		if !slices.Equal(book[i], want.List()) {
			t.Errorf("%s: asked of %d is %v, not %v", what, i, book[i], want.List())
		}
		a, ok := f.Agent(i)
		if !ok || a == nil {
			t.Fatalf("%s: there is no agent %d", what, i)
		}
		if !slices.Equal(a.Bids(), b.bids()) || !a.Prices().Same(want) || a.Best() != b.best() || !slices.Equal(atomsOf(a.Val()), b.atoms) {
			t.Errorf("%s: the agent %d bids %v, not %v", what, i, a.Bids(), b.bids())
		}
	}
	for _, i := range []int{math.MinInt, -1, len(m.bidders), len(m.bidders) + 1, 64, math.MaxInt} {
		if a, ok := f.Agent(i); ok || a != nil {
			t.Errorf("%s: there is an agent %d", what, i)
		}
	}
}

// soon fails a test in which a call doesn't end.
func soon(t *testing.T, what string, do func()) {
	t.Helper()
	done := make(chan struct{})
	go func() {
		defer close(done)
		do()
	}()
	select {
	case <-done:
	case <-time.After(60 * time.Second):
		t.Fatalf("%s doesn't end", what)
	}
}

// oneOf is what a floor is made of at random: of few bidders, items and atoms.
func oneOf(rnd *rand.Rand, n int) given {
	items, most := 1+rnd.IntN(5), 1+rnd.Int64N(12)
	g := given{eps: 1 + rnd.Int64N(4)}
	if n%6 == 0 {
		most, g.eps = big, []int64{big, big - 1, big/3 + 1, big / 2}[rnd.IntN(4)]
	}
	for range rnd.IntN(5) {
		var as []api.Atom
		for range rnd.IntN(5) {
			as = append(as, api.Atom{Set: 1 + rnd.Uint64N(1<<items-1), Value: 1 + rnd.Int64N(most)})
		}
		g.atoms = append(g.atoms, as)
	}
	return g
}

// floors are what floors are made of, at random.
func floors(seed uint64) []given {
	rnd := rand.New(rand.NewPCG(seed, 21))
	gs := []given{{}, {eps: 1}, {make([][]api.Atom, 3), 2}, {[][]api.Atom{atoms(-1, big)}, big}, {[][]api.Atom{atoms(-1, big), atoms(-1, big)}, big}}
	for n := range 300 {
		gs = append(gs, oneOf(rnd, n))
	}
	return gs
}

// P21.1: the document's example.
func TestExample(t *testing.T) {
	f := floorOf(1, atoms(1, 5), atoms(1, 3))
	var last round.Outcome
	for o := range f.Run(100) {
		last = o
	}
	checkOutcome(t, "the last round", last, round.Outcome{Round: 7, Picks: picks(0, 1, 3), Total: 3, Out: []int{1}, Ended: true})
	for i, es := range f.Book() {
		if !slices.Equal(es, entries(1, 3)) {
			t.Errorf("asked of %d: %v", i, es)
		}
	}
}

// P21.1: round by round, by hand.
func TestByHand(t *testing.T) {
	for i, r := range []struct {
		given
		outcomes []round.Outcome
		book     [][]api.Entry
	}{
		{given{nil, 1}, []round.Outcome{{Round: 1, Ended: true}}, nil},
		{given{[][]api.Atom{nil, nil}, 1}, []round.Outcome{{Round: 1, Out: []int{0, 1}, Ended: true}}, [][]api.Entry{nil, nil}},
		{given{[][]api.Atom{atoms(1, 5)}, 1}, []round.Outcome{{Round: 1, Picks: picks(0, 1, 0), Ended: true}}, [][]api.Entry{nil}},
		{given{[][]api.Atom{nil, atoms(1, 5)}, 1}, []round.Outcome{{Round: 1, Picks: picks(1, 1, 0), Out: []int{0}, Ended: true}}, [][]api.Entry{nil, nil}},
		{given{[][]api.Atom{atoms(1, 5), atoms(2, 3)}, 1}, []round.Outcome{{Round: 1, Picks: picks(0, 1, 0, 1, 2, 0), Ended: true}}, [][]api.Entry{nil, nil}},
		{ // the sad one rises past its value; it bids that then, and is out
			given{[][]api.Atom{atoms(1, 5), atoms(1, 3)}, 2},
			[]round.Outcome{
				{Round: 1, Picks: picks(0, 1, 0), Sad: []int{1}},
				{Round: 2, Picks: picks(1, 1, 2), Total: 2, Sad: []int{0}},
				{Round: 3, Picks: picks(0, 1, 2), Total: 2, Sad: []int{1}},
				{Round: 4, Picks: picks(1, 1, 3), Total: 3, Sad: []int{0}},
				{Round: 5, Picks: picks(0, 1, 4), Total: 4, Out: []int{1}, Ended: true},
			},
			[][]api.Entry{entries(1, 4), entries(1, 4)},
		},
		{ // two sad ones at once; and one that is out, ahead of a sad one
			given{[][]api.Atom{atoms(1, 2), atoms(1, 1), atoms(1, 2)}, 1},
			[]round.Outcome{
				{Round: 1, Picks: picks(0, 1, 0), Sad: []int{1, 2}},
				{Round: 2, Picks: picks(1, 1, 1), Total: 1, Sad: []int{0, 2}},
				{Round: 3, Picks: picks(2, 1, 2), Total: 2, Sad: []int{0}, Out: []int{1}},
				{Round: 4, Picks: picks(0, 1, 2), Total: 2, Out: []int{1, 2}, Ended: true},
			},
			[][]api.Entry{entries(1, 2), entries(1, 1), entries(1, 2)},
		},
		{ // both items for one, or one for each
			given{[][]api.Atom{atoms(3, 4), atoms(1, 3), atoms(2, 3)}, 2},
			[]round.Outcome{
				{Round: 1, Picks: picks(0, 3, 0), Sad: []int{1, 2}},
				{Round: 2, Picks: picks(1, 1, 2, 2, 2, 2), Total: 4, Sad: []int{0}},
				{Round: 3, Picks: picks(1, 1, 2, 2, 2, 2), Total: 4, Sad: []int{0}},
				{Round: 4, Picks: picks(0, 3, 4), Total: 4, Sad: []int{1, 2}},
				{Round: 5, Picks: picks(1, 1, 3, 2, 2, 3), Total: 6, Out: []int{0}, Ended: true},
			},
			[][]api.Entry{entries(3, 4), entries(1, 4), entries(2, 4)},
		},
		{ // one that wants another set behind its rise
			given{[][]api.Atom{atoms(1, 5, 2, 4), atoms(1, 4)}, 1},
			[]round.Outcome{
				{Round: 1, Picks: picks(0, 1, 0), Sad: []int{1}},
				{Round: 2, Picks: picks(1, 1, 1), Total: 1, Sad: []int{0}},
				{Round: 3, Picks: picks(0, 1, 1), Total: 1, Sad: []int{1}},
				{Round: 4, Picks: picks(0, 2, 0, 1, 1, 2), Total: 2, Ended: true},
			},
			[][]api.Entry{entries(1, 1), entries(1, 2)},
		},
		{
			given{[][]api.Atom{atoms(1, big), atoms(1, big)}, big + 5},
			[]round.Outcome{
				{Round: 1, Picks: picks(0, 1, 0), Sad: []int{1}},
				{Round: 2, Picks: picks(1, 1, big), Total: big, Sad: []int{0}},
				{Round: 3, Picks: picks(0, 1, big), Total: big, Out: []int{1}, Ended: true},
			},
			[][]api.Entry{entries(1, big), entries(1, big)},
		},
	} {
		f := r.floor()
		var got []round.Outcome
		for range r.outcomes {
			got = append(got, f.Step())
		}
		checkOutcomes(t, "rounds", got, r.outcomes)
		if f.Round() != len(r.outcomes) || !f.Ended() {
			t.Errorf("%d: %d rounds, ended %v", i, f.Round(), f.Ended())
		}
		if !slices.EqualFunc(f.Book(), r.book, slices.Equal) {
			t.Errorf("%d: asked %v, not %v", i, f.Book(), r.book)
		}
	}
}

// P21.1: all calls, ahead of and behind each round, of floors at random, till they have ended and on.
func TestAtRandom(t *testing.T) {
	counted := 0
	for _, g := range floors(1) {
		f, m := g.floor(), g.model()
		checkFloor(t, "a new floor", f, m)
		for !m.ended {
			checkOutcome(t, "a round", f.Step(), m.step())
			checkFloor(t, "behind a round", f, m)
			counted++
		}
		checkOutcome(t, "behind the end", f.Step(), m.step())
		checkFloor(t, "behind the end", f, m)
	}
	if counted < 800 {
		t.Errorf("%d rounds alone", counted)
	}
}

// P21.1: a floor of nobody: of no valuations, of empty ones, or never made of anything.
func TestNobody(t *testing.T) {
	for _, f := range []*round.Floor{round.New(nil, 1), round.New([]xor.Val{}, math.MinInt64), {}, new(round.Floor).Clone()} {
		m := given{}.model()
		checkFloor(t, "a floor of nobody", f, m)
		checkOutcome(t, "its round", f.Step(), round.Outcome{Round: 1, Ended: true})
		m.step()
		checkFloor(t, "a floor of nobody that has ended", f, m)
		if f.Bound() != 0 || len(f.Book()) != 0 {
			t.Errorf("bound %d, book %v", f.Bound(), f.Book())
		}
	}
	f := round.New(make([]xor.Val, 2), 7)
	checkOutcome(t, "the round of empty valuations", f.Step(), round.Outcome{Round: 1, Out: []int{0, 1}, Ended: true})
}

// P21.1: eps below 1 counts as 1, above 2^40 as that.
func TestEps(t *testing.T) {
	for eps, want := range map[int64]int64{
		math.MinInt64: 1, -big: 1, -1: 1, 0: 1, 1: 1, 2: 2, 3: 3, big - 1: big - 1, big: big, big + 1: big, math.MaxInt64: big,
	} {
		f := floorOf(eps, atoms(1, big), atoms(1, big))
		each := big / want
		if each*want < big {
			each++
		}
		if n := f.Bound(); n != 2*each {
			t.Errorf("eps %d: bound %d, not %d", eps, n, 2*each)
		}
		f.Step()
		if book := f.Book(); len(book[0]) != 0 || !slices.Equal(book[1], entries(1, want)) {
			t.Errorf("eps %d: asked %v", eps, book)
		}
	}
}

// P21.1: of more than 64 valuations those behind the 64th don't count.
func TestManyAgents(t *testing.T) {
	for _, n := range []int{63, 64, 65, 66, 500} {
		g := given{eps: 2}
		for i := range n {
			g.atoms = append(g.atoms, atoms(1<<(i%64), int64(1+i)))
		}
		f := g.floor()
		g.atoms = g.atoms[:min(n, 64)]
		m := g.model()
		checkFloor(t, "a floor of many", f, m)
		o := f.Step()
		if !o.Ended || len(o.Picks) != min(n, 64) || o.Picks[len(o.Picks)-1].Bidder != min(n, 64)-1 || len(o.Out) != 0 {
			t.Errorf("%d: %+v", n, o)
		}
	}
	last := given{atoms: make([][]api.Atom, 64), eps: 1}
	last.atoms[63] = atoms(1, 3)
	last.atoms[0] = atoms(1, 3)
	f := last.floor()
	checkOutcome(t, "with a 64th one", f.Step(), round.Outcome{Round: 1, Picks: picks(0, 1, 0), Sad: []int{63}, Out: upTo(1, 63)})
	checkOutcome(t, "with a 64th one, again", f.Step(), round.Outcome{Round: 2, Picks: picks(63, 1, 1), Total: 1, Sad: []int{0}, Out: upTo(1, 63)})
}

// upTo are the numbers from one on, below the other.
func upTo(from, to int) []int {
	var ns []int
	for n := from; n < to; n++ {
		ns = append(ns, n)
	}
	return ns
}

// P21.1: of a floor that has ended the last round is told once more, and nothing turns.
func TestBehindTheEnd(t *testing.T) {
	for _, g := range floors(2) {
		f := g.floor()
		var last round.Outcome
		for o := range f.Run(math.MaxInt) {
			last = o
		}
		book, n, bound := f.Book(), f.Round(), f.Bound()
		if !f.Ended() || !last.Ended || last.Round != n || len(last.Sad) != 0 {
			t.Fatalf("%v: %+v, of %d rounds", g, last, n)
		}
		for range 3 {
			checkOutcome(t, "Step behind the end", f.Step(), last)
			checkOutcomes(t, "Run behind the end", slices.Collect(f.Run(5)), []round.Outcome{last})
			checkOutcomes(t, "Run of none behind the end", slices.Collect(f.Run(0)), nil)
		}
		if f.Round() != n || f.Bound() != bound || !f.Ended() || !slices.EqualFunc(f.Book(), book, slices.Equal) {
			t.Errorf("%v: it goes on behind its end", g)
		}
	}
}

// gather are rounds, up to so many.
func gather(seq iter.Seq[round.Outcome], most int) []round.Outcome {
	var all []round.Outcome
	for o := range seq {
		all = append(all, o)
		if len(all) >= most {
			break
		}
	}
	return all
}

// P21.1: Run tells at most so many rounds, up to the one in which it ends; those that are left come of the next one.
func TestRun(t *testing.T) {
	g := given{[][]api.Atom{atoms(1, 5), atoms(1, 3)}, 1}
	var whole []round.Outcome
	for f := g.floor(); !f.Ended(); {
		whole = append(whole, f.Step())
	}
	for most, n := range map[int]int{math.MinInt: 0, -1: 0, 0: 0, 1: 1, 2: 2, 6: 6, 7: 7, 8: 7, 1000: 7, math.MaxInt: 7} {
		f := g.floor()
		checkOutcomes(t, "Run", slices.Collect(f.Run(most)), whole[:n])
		if f.Round() != n || f.Ended() != (n == 7) {
			t.Errorf("Run of %d: %d rounds, ended %v", most, f.Round(), f.Ended())
		}
	}
	for _, g := range floors(3) {
		f, m := g.floor(), g.model()
		for n := 0; !m.ended; n++ {
			var want []round.Outcome
			for len(want) < n%4 && !m.ended {
				want = append(want, m.step())
			}
			checkOutcomes(t, "Run", slices.Collect(f.Run(n%4)), want)
			checkFloor(t, "behind Run", f, m)
		}
	}
}

// P21.1: no round is made till it is asked for, and none more than are; gone over again, the next ones come.
func TestRunStops(t *testing.T) {
	g := given{[][]api.Atom{atoms(1, 5), atoms(1, 3)}, 1}
	whole := slices.Collect(g.floor().Run(100))
	for stop := 1; stop <= len(whole); stop++ {
		f := g.floor()
		seq := f.Run(100)
		if f.Round() != 0 {
			t.Error("rounds are made that nobody asked for")
		}
		var got []round.Outcome
		seq(func(o round.Outcome) bool {
			if len(got) >= stop || f.Round() != o.Round {
				t.Errorf("Run goes on when no more is asked for, or ahead of it: %d rounds at the one of %d", f.Round(), o.Round)
			}
			got = append(got, o)
			return len(got) < stop
		})
		checkOutcomes(t, "Run", got, whole[:stop])
		if f.Round() != stop {
			t.Errorf("%d rounds, not %d", f.Round(), stop)
		}
		rest := whole[min(stop, len(whole)-1):] // of one that has ended the last one, once more
		checkOutcomes(t, "Run, gone over again", slices.Collect(seq), rest)
		checkOutcomes(t, "Run, gone over at the end", slices.Collect(seq), whole[len(whole)-1:])
	}
	f := g.floor()
	seq := f.Run(2)
	checkOutcomes(t, "two rounds", slices.Collect(seq), whole[:2])
	checkOutcomes(t, "the next two rounds", slices.Collect(seq), whole[2:4])
	soon(t, "the beginning of many rounds", func() {
		long := floorOf(1, atoms(1, big), atoms(1, big))
		if got := gather(long.Run(math.MaxInt), 3); len(got) != 3 || got[2].Total != 1 || long.Round() != 3 || long.Bound() != 2*big-3 {
			t.Errorf("%+v", got)
		}
	})
}

// P21.1: rounds that are stepped within a run are told by neither twice.
func TestStepWithinRun(t *testing.T) {
	g := given{[][]api.Atom{atoms(1, 5), atoms(1, 3)}, 1}
	whole := slices.Collect(g.floor().Run(100))
	f := g.floor()
	var got []round.Outcome
	for o := range f.Run(100) {
		got = append(got, o, f.Step())
	}
	checkOutcomes(t, "rounds of both", got[:7], whole)
}

// P21.2: each round lets the bound fall by as many as are sad, so that at most so many don't end as were told at first.
func TestBound(t *testing.T) {
	for _, g := range floors(4) {
		f := g.floor()
		first := f.Bound()
		for bound := first; ; bound = f.Bound() {
			o := f.Step()
			if f.Bound() != bound-int64(len(o.Sad)) {
				t.Errorf("%v: the bound was %d, is %d, of %d sad ones", g, bound, f.Bound(), len(o.Sad))
			}
			if o.Ended {
				break
			}
		}
		if n := int64(f.Round() - 1); n > first {
			t.Errorf("%v: %d rounds don't end, not %d", g, n, first)
		}
	}
	for _, r := range []struct {
		given
		bound int64
	}{
		{given{nil, 1}, 0},
		{given{[][]api.Atom{nil, atoms(1, 5)}, 2}, 3},
		{given{[][]api.Atom{atoms(1, 3), atoms(1, 2)}, 1}, 5},
		{given{[][]api.Atom{atoms(1, 5, 3, 7), atoms(1, 3, 2, 2)}, 3}, 4},
	} {
		if n := r.floor().Bound(); n != r.bound {
			t.Errorf("%v: bound %d, not %d", r.given, n, r.bound)
		}
	}
	full := given{eps: 1}
	for range 64 {
		full.atoms = append(full.atoms, atoms(1, big))
	}
	if n := full.floor().Bound(); n != 64*big {
		t.Errorf("of 64 greatest values: %d", n)
	}
}

// wider are what floors are made of, of more bidders and items than can all be tried.
func wider(seed uint64) []given {
	rnd := rand.New(rand.NewPCG(seed, 210))
	var gs []given
	for n := range 40 {
		items, most := 2+rnd.IntN(12), 1+rnd.Int64N(60)
		g := given{eps: 1 + rnd.Int64N(9)}
		for range 1 + rnd.IntN(16) {
			var as []api.Atom
			for range 1 + rnd.IntN(1+n%8) {
				as = append(as, api.Atom{Set: 1<<rnd.IntN(items) | 1<<rnd.IntN(items) | 1<<rnd.IntN(items), Value: 1 + rnd.Int64N(most)})
			}
			g.atoms = append(g.atoms, as)
		}
		gs = append(gs, g)
	}
	return gs
}

// ended is a floor behind its end, and its last round.
func ended(g given) (*round.Floor, round.Outcome) {
	f := g.floor()
	var last round.Outcome
	for o := range f.Run(math.MaxInt) {
		last = o
	}
	return f, last
}

// P21.3: at the end each agent with a pick has a surplus above its best one less eps from it, each other one is done.
func TestContent(t *testing.T) {
	for _, g := range append(floors(5), wider(5)...) {
		f, last := ended(g)
		for _, p := range last.Picks {
			a, _ := f.Agent(p.Bidder)
			if a.Val().Value(p.Set)-p.Price <= a.Best()-min(g.eps, big) || p.Price != a.Pays(p.Set) {
				t.Errorf("%v: %v has %d, but could have %d", g, p, a.Val().Value(p.Set)-p.Price, a.Best())
			}
		}
		for i := range f.Len() {
			if a, _ := f.Agent(i); has(last.Picks, i) == slices.Contains(last.Out, i) || !has(last.Picks, i) && !a.Done() {
				t.Errorf("%v: the agent %d is neither picked nor out", g, i)
			}
		}
	}
}

// offers are all agents' atoms, each at what one tells.
func offers(f *round.Floor, tell func(i int, x api.Atom) int64) [][]api.Bid {
	all := make([][]api.Bid, f.Len())
	for i := range all {
		a, _ := f.Agent(i)
		for _, x := range a.Val().Atoms() {
			all[i] = append(all[i], api.Bid{Set: x.Set, Price: tell(i, x)})
		}
	}
	return all
}

// most is the greatest total of bids: of a few with each assignment tried.
func most(all [][]api.Bid, few bool) int64 {
	if few {
		_, n := assign(all, 0)
		return n
	}
	return wdp.Total(all, math.MaxUint64)
}

// P21.4: at the end no assignment of the agents' atoms, at what is asked or what they are worth, has a greater total.
func TestNoneIsGreater(t *testing.T) {
	few := floors(6)
	for n, g := range append(few, wider(6)...) {
		f, last := ended(g)
		all := offers(f, func(i int, x api.Atom) int64 {
			a, _ := f.Agent(i)
			return min(a.Ask(x.Set), x.Value)
		})
		if got := most(all, n < len(few)); got != last.Total {
			t.Errorf("%v: there is an assignment of %d, not %d", g, got, last.Total)
		}
	}
}

// P21.5: at the end the atoms that are picked are worth more than the greatest worth less eps for each of them.
func TestWorth(t *testing.T) {
	few := floors(7)
	less := 0
	for n, g := range append(few, wider(7)...) {
		f, last := ended(g)
		whole := most(offers(f, func(i int, x api.Atom) int64 { return x.Value }), n < len(few))
		var got int64
		for _, p := range last.Picks {
			a, _ := f.Agent(p.Bidder)
			got += a.Val().Value(p.Set)
		}
		k := int64(len(last.Picks))
		if k == 0 && whole != 0 || k > 0 && got <= whole-k*min(g.eps, big) {
			t.Errorf("%v: what is picked is worth %d, not %d", g, got, whole)
		}
		if got < whole {
			less++
		}
	}
	if less == 0 {
		t.Error("all are worth the most")
	}
}

// P21.1: clones go their own ways.
func TestClones(t *testing.T) {
	for n, g := range floors(8) {
		f, m := g.floor(), g.model()
		for range n % 3 {
			f.Step()
			m.step()
		}
		c, o := f.Clone(), m.clone()
		checkFloor(t, "the clone", c, o)
		checkOutcome(t, "the clone's round", c.Step(), o.step())
		checkFloor(t, "behind the clone's round", f, m)
		for range 4 {
			checkOutcome(t, "the floor's round", f.Step(), m.step())
		}
		checkFloor(t, "behind the floor's rounds", c, o)
		checkFloor(t, "the floor", f, m)
		for range 3 {
			checkOutcome(t, "the clone's rounds", c.Step(), o.step())
		}
		checkFloor(t, "the clone behind all", c, o)
		checkFloor(t, "the floor behind all", f, m)
	}
}

// P21.1: what is handed in may be written over, agents and what is answered may be turned; the floor stays.
func TestAnswersAreNew(t *testing.T) {
	overwrite := func(o round.Outcome) {
		for i := range o.Picks[:cap(o.Picks)] {
			o.Picks[:cap(o.Picks)][i] = api.Pick{Bidder: -9, Set: 99, Price: -9}
		}
		for _, ns := range [][]int{o.Sad, o.Out} {
			for i := range ns[:cap(ns)] {
				ns[:cap(ns)][i] = -9
			}
		}
	}
	for _, g := range floors(9) {
		vs, m := g.vals(), g.model()
		f := round.New(vs, g.eps)
		clear(vs)
		for range 6 {
			o, want := f.Step(), m.step()
			checkOutcome(t, "a round", o, want)
			overwrite(o)
			for i := range f.Len() {
				a, _ := f.Agent(i)
				a.Rise()
				a.Prices().Put(1, big)
			}
			for _, es := range f.Book() {
				for i := range es[:cap(es)] {
					es[:cap(es)][i] = api.Entry{Set: 1, Ask: big}
				}
			}
			book := f.Book()
			clear(book[:cap(book)])
			checkFloor(t, "behind all", f, m)
		}
		var told []round.Outcome
		for o := range f.Run(3) {
			told = append(told, o)
		}
		for i := range told {
			overwrite(told[i])
			if i+1 < len(told) {
				checkOutcome(t, "another round of the run", told[i+1], m.stepTo(i+2))
			}
		}
	}
}

// stepTo is the round so many rounds on, of a clone.
func (m *model) stepTo(n int) round.Outcome {
	c := m.clone()
	var o round.Outcome
	for range n {
		o = c.step()
	}
	return o
}

// P21.1: what is nobody's is told as nothing, from the first round on.
func TestEmptyLists(t *testing.T) {
	o := floorOf(1, atoms(1, 3)).Step()
	if len(o.Sad) != 0 || len(o.Out) != 0 {
		t.Errorf("%+v", o)
	}
	o = floorOf(1, nil).Step()
	if len(o.Sad) != 0 || len(o.Picks) != 0 || o.Total != 0 {
		t.Errorf("%+v", o)
	}
}

// P1 of the whole: rounds of many agents with many atoms end.
func TestManyAtoms(t *testing.T) {
	soon(t, "a floor of many agents", func() {
		rnd := rand.New(rand.NewPCG(11, 21))
		g := given{eps: 100}
		for range 64 {
			var as []api.Atom
			for range 16 {
				as = append(as, api.Atom{Set: 1<<rnd.IntN(64) | 1<<rnd.IntN(64), Value: 1 + rnd.Int64N(1000)})
			}
			g.atoms = append(g.atoms, as)
		}
		f, last := ended(g)
		if len(last.Picks) < 20 || f.Round() < 5 {
			t.Errorf("%d rounds, %d picks", f.Round(), len(last.Picks))
		}
	})
	soon(t, "a round of more atoms than may be told", func() {
		rnd := rand.New(rand.NewPCG(12, 21))
		g := given{eps: big / 2}
		for range 3 {
			var as []api.Atom
			for range 600 {
				as = append(as, api.Atom{Set: rnd.Uint64() & rnd.Uint64() & rnd.Uint64(), Value: 1 + rnd.Int64N(big)})
			}
			g.atoms = append(g.atoms, as)
		}
		f, last := ended(g)
		if !last.Ended || int64(f.Round()) > 1+6 {
			t.Errorf("%d rounds", f.Round())
		}
	})
}

// P1 of the whole, P21.1: rounds of many agents that are all alike end; at last
// all is asked of all, and the first ones have an item each.
func TestAllAlike(t *testing.T) {
	const items = 32
	g := given{eps: 3}
	for range 64 {
		var as []api.Atom
		for item := range items {
			as = append(as, api.Atom{Set: 1 << item, Value: 10})
		}
		g.atoms = append(g.atoms, as)
	}
	want := round.Outcome{Round: 9, Total: 10 * items, Out: upTo(items, 64), Ended: true}
	for i := range items {
		want.Picks = append(want.Picks, api.Pick{Bidder: i, Set: 1 << i, Price: 10})
	}
	soon(t, "a floor of agents that are all alike", func() {
		_, last := ended(g)
		checkOutcome(t, "the last round", last, want)
	})
}

// P2 of the whole: the same calls are answered the same.
func TestAnswersHangOnCalls(t *testing.T) {
	for _, g := range append(floors(10), wider(10)...) {
		first := slices.Collect(g.floor().Run(50))
		for range 2 {
			checkOutcomes(t, "the same rounds", slices.Collect(g.floor().Run(50)), first)
		}
	}
}
