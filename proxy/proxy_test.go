// The tests of layer 19. Above each stands the promise that it holds the program to.
package proxy_test

import (
	"iter"
	"math"
	"math/rand/v2"
	"slices"
	"testing"
	"time"

	"saleroom/api"
	"saleroom/price"
	"saleroom/proxy"
	"saleroom/xor"
)

const (
	every uint64 = math.MaxUint64 // the set of all items
	big   int64  = 1 << 40        // the greatest value, and the greatest eps
	top   int64  = 2 * big        // the greatest ask
)

// atoms are atoms told as sets and values in turn.
func atoms(numbers ...int64) []api.Atom {
	var as []api.Atom
	for i := 0; i < len(numbers); i += 2 {
		as = append(as, api.Atom{Set: uint64(numbers[i]), Value: numbers[i+1]})
	}
	return as
}

// bids are bids told as sets and prices in turn.
func bids(numbers ...int64) []api.Bid {
	var bs []api.Bid
	for _, a := range atoms(numbers...) {
		bs = append(bs, api.Bid{Set: a.Set, Price: a.Value})
	}
	return bs
}

// entries are entries told as sets and asks in turn.
func entries(numbers ...int64) []api.Entry {
	var es []api.Entry
	for _, a := range atoms(numbers...) {
		es = append(es, api.Entry{Set: a.Set, Ask: a.Value})
	}
	return es
}

// agentOf is an agent of atoms and entries.
func agentOf(as []api.Atom, es []api.Entry, eps int64) *proxy.Agent {
	return proxy.New(xor.New(as), price.Of(es), eps)
}

// model is what an agent is held to: its atoms, all asks that were put, and eps.
type model struct {
	atoms []api.Atom
	asks  []api.Entry
	eps   int64
}

// modelOf is what an agent of a normal list is held to.
func modelOf(normal []api.Atom, es []api.Entry, eps int64) *model {
	m := &model{atoms: slices.Clone(normal), eps: min(max(eps, 1), big)}
	for _, e := range es {
		m.put(e.Set, e.Ask)
	}
	return m
}

func (m *model) clone() *model {
	return &model{slices.Clone(m.atoms), slices.Clone(m.asks), m.eps}
}

func liesWithin(a, b uint64) bool { return a|b == b }

func (m *model) put(s uint64, ask int64) {
	if s != 0 && ask <= top && ask > m.ask(s) {
		m.asks = append(m.asks, api.Entry{Set: s, Ask: ask})
	}
}

func (m *model) ask(s uint64) int64 {
	var most int64
	for _, e := range m.asks {
		if liesWithin(e.Set, s) && e.Ask > most {
			most = e.Ask
		}
	}
	return most
}

func (m *model) worth(s uint64) int64 {
	var most int64
	for _, a := range m.atoms {
		if liesWithin(a.Set, s) && a.Value > most {
			most = a.Value
		}
	}
	return most
}

func (m *model) surplus(s uint64) int64 {
	if m.worth(s) < m.ask(s) {
		return 0
	}
	return m.worth(s) - m.ask(s)
}

func (m *model) pays(s uint64) int64 {
	if m.worth(s) < m.ask(s) {
		return m.worth(s)
	}
	return m.ask(s)
}

func (m *model) best() int64 {
	var most int64
	for _, a := range m.atoms {
		most = max(most, m.surplus(a.Set))
	}
	return most
}

func (m *model) wants() []api.Atom {
	var as []api.Atom
	for _, a := range m.atoms {
		if m.best()-m.surplus(a.Set) < m.eps {
			as = append(as, a)
		}
	}
	return as
}

func (m *model) bids() []api.Bid {
	var bs []api.Bid
	for _, a := range m.wants() {
		bs = append(bs, api.Bid{Set: a.Set, Price: m.pays(a.Set)})
	}
	return bs
}

func (m *model) rise() int {
	was := m.clone()
	n := 0
	for _, a := range was.wants() {
		if was.ask(a.Set) < a.Value {
			m.put(a.Set, was.ask(a.Set)+m.eps)
			n++
		}
	}
	return n
}

// rounds is how many times eps must be taken from the best surplus, at least, till nothing is left.
func (m *model) rounds() int64 {
	n := m.best() / m.eps
	if n*m.eps < m.best() {
		n++
	}
	return n
}

// setsFor are sets to ask of: those of the atoms, with an item more and less, others, and the ends.
func setsFor(rnd *rand.Rand, as []api.Atom) []uint64 {
	ss := []uint64{0, 1, 2, 3, 7, every, every - 1, 1 << 63, rnd.Uint64(), rnd.Uint64() % 64, rnd.Uint64() % 64}
	for range min(len(as), 4) {
		s := as[rnd.IntN(len(as))].Set
		ss = append(ss, s, s&(s-1), s|1<<rnd.IntN(64), s|as[rnd.IntN(len(as))].Set, ^s)
	}
	return ss
}

// checkList: a list is what it should be.
func checkList[T comparable](t *testing.T, what string, got, want []T) {
	t.Helper()
	if !slices.Equal(got, want) {
		t.Errorf("%s: %v, not %v", what, got, want)
	}
}

// checkAgent: an agent answers all that it is held to, for some sets.
func checkAgent(t *testing.T, what string, a *proxy.Agent, m *model, ss ...uint64) {
	t.Helper()
	if a == nil {
		t.Fatalf("%s: there is no agent", what)
	}
	if a.Best() != m.best() || a.Rounds() != m.rounds() || a.Done() != (m.best() == 0) {
		t.Errorf("%s: best surplus %d, %d rounds, done %v, not %d, %d", what, a.Best(), a.Rounds(), a.Done(), m.best(), m.rounds())
	}
	checkList(t, what+", wanted", slices.Collect(a.Wants()), m.wants())
	checkList(t, what+", bids", a.Bids(), m.bids())
	for _, x := range m.atoms {
		ss = append(ss, x.Set)
	}
	p := a.Prices()
	for _, s := range append(ss, 0, every) {
		if a.Surplus(s) != m.surplus(s) || a.Ask(s) != m.ask(s) || a.Pays(s) != m.pays(s) || p.Ask(s) != m.ask(s) {
			t.Errorf("%s: of %b the surplus is %d, asked %d and %d, paid %d, not %d, %d, %d", what, s, a.Surplus(s), a.Ask(s), p.Ask(s), a.Pays(s), m.surplus(s), m.ask(s), m.pays(s))
		}
	}
	if !p.Same(price.Of(m.asks)) || !a.Val().Same(xor.New(m.atoms)) {
		t.Errorf("%s: asks %v, is worth %v", what, p.List(), a.Val())
	}
}

// soon fails a test in which a call doesn't end.
func soon(t *testing.T, what string, do func()) {
	t.Helper()
	done := make(chan struct{})
	go func() {
		defer close(done)
		do()
	}()
	select {
	case <-done:
	case <-time.After(30 * time.Second):
		t.Fatalf("%s doesn't end", what)
	}
}

// given is what an agent is made of.
type given struct {
	atoms   []api.Atom
	entries []api.Entry
	eps     int64
}

// normal is the normal list of its atoms.
func (g given) normal() []api.Atom {
	var as []api.Atom
	for _, x := range xor.New(g.atoms).Atoms() {
		as = append(as, x)
	}
	return as
}

func (g given) agent() *proxy.Agent { return agentOf(g.atoms, g.entries, g.eps) }

func (g given) model() *model { return modelOf(g.normal(), g.entries, g.eps) }

// oneOf is what an agent is made of at random: of few items and values or of many, of whom something is asked already or not.
func oneOf(rnd *rand.Rand, n int) given {
	items, most := 1+rnd.IntN(6), int64(1+rnd.IntN(30))
	g := given{eps: 1 + rnd.Int64N(8)}
	if n%5 == 0 {
		items, most, g.eps = 1+rnd.IntN(64), big, []int64{big, big - 1, big / 2, big/9 + 1, big + 1}[rnd.IntN(5)]
	}
	set := func() uint64 { return rnd.Uint64() >> (64 - items) & (rnd.Uint64() | rnd.Uint64()) }
	for range rnd.IntN(2 + n%13) {
		g.atoms = append(g.atoms, api.Atom{Set: set(), Value: 1 + rnd.Int64N(most)})
	}
	for range rnd.IntN(1 + n%3*3) {
		g.entries = append(g.entries, api.Entry{Set: set(), Ask: 1 + rnd.Int64N(2*most)})
	}
	return g
}

// agents are what agents are made of, at random.
func agents(seed uint64) []given {
	rnd := rand.New(rand.NewPCG(seed, 19))
	gs := []given{{}, {eps: 5}, {entries: entries(1, 5)}, {atoms: atoms(1, 5)}, {atoms: atoms(-1, big), entries: entries(1, top), eps: big}, {atoms: atoms(-1, big), eps: big}}
	for n := range 400 {
		gs = append(gs, oneOf(rnd, n))
	}
	return gs
}

// P19.1: the document's example.
func TestExample(t *testing.T) {
	a := agentOf(atoms(1, 5, 3, 8), nil, 2)
	checkList(t, "wanted", slices.Collect(a.Wants()), atoms(3, 8))
	checkList(t, "bids", a.Bids(), bids(3, 0))
	if n := a.Rise(); n != 1 || a.Ask(3) != 2 || a.Surplus(3) != 6 || a.Surplus(1) != 5 || a.Best() != 6 {
		t.Errorf("behind Rise of %d: asked %d, surplus %d and %d", n, a.Ask(3), a.Surplus(3), a.Surplus(1))
	}
	checkList(t, "wanted behind Rise", slices.Collect(a.Wants()), atoms(1, 5, 3, 8))
	checkList(t, "bids behind Rise", a.Bids(), bids(1, 0, 3, 2))
}

// P19.1: what is bid, and what is asked behind a rise, by hand.
func TestByHand(t *testing.T) {
	for i, r := range []struct {
		atoms   []api.Atom
		entries []api.Entry
		eps     int64
		best    int64
		rounds  int64
		bids    []api.Bid
		rises   int
		then    []api.Entry
	}{
		{nil, nil, 1, 0, 0, nil, 0, nil},
		{nil, entries(1, 3), 1, 0, 0, nil, 0, entries(1, 3)},
		{atoms(1, 5), nil, 1, 5, 5, bids(1, 0), 1, entries(1, 1)},
		{atoms(1, 5), nil, 4, 5, 2, bids(1, 0), 1, entries(1, 4)},
		{atoms(1, 5), nil, 5, 5, 1, bids(1, 0), 1, entries(1, 5)},
		{atoms(1, 5), nil, 6, 5, 1, bids(1, 0), 1, entries(1, 6)},
		{atoms(1, 5, 2, 4), nil, 1, 5, 5, bids(1, 0), 1, entries(1, 1)},             // {1} has 4, which is the bar, not above it
		{atoms(1, 5, 2, 4), nil, 2, 5, 3, bids(1, 0, 2, 0), 2, entries(1, 2, 2, 2)}, // and now it is above
		{atoms(1, 5, 2, 3), nil, 2, 5, 3, bids(1, 0), 1, entries(1, 2)},
		{atoms(1, 5, 2, 3), entries(1, 2), 1, 3, 3, bids(1, 2, 2, 0), 2, entries(1, 3, 2, 1)},
		{atoms(1, 5, 2, 3), entries(1, 5), 3, 3, 1, bids(2, 0), 1, entries(2, 3, 1, 5)},       // {0} has 0, which is the bar
		{atoms(1, 5, 2, 3), entries(1, 5), 4, 3, 1, bids(1, 5, 2, 0), 1, entries(1, 5, 2, 4)}, // wanted, but no more is asked for {0}
		{atoms(1, 5, 2, 3), entries(1, 9), 4, 3, 1, bids(1, 5, 2, 0), 1, entries(1, 9, 2, 4)},
		{atoms(1, 5, 2, 3), entries(1, 5, 2, 3), 1, 0, 0, bids(1, 5, 2, 3), 0, entries(1, 5, 2, 3)}, // done
		{atoms(1, 5, 2, 3), entries(1, top, 2, 4), 1, 0, 0, bids(1, 5, 2, 3), 0, entries(1, top, 2, 4)},
		{atoms(1, 5, 3, 8), entries(1, 4), 5, 4, 1, bids(1, 4, 3, 4), 2, entries(1, 9)}, // both rise by eps from what was asked, none by more
		{atoms(1, 5, 3, 8), entries(1, 1), 2, 7, 4, bids(3, 1), 1, entries(1, 1, 3, 3)},
		{atoms(1, 5, 3, 6), entries(1, 1, 3, 2), 3, 4, 2, bids(1, 1, 3, 2), 2, entries(1, 4, 3, 5)},
		{atoms(1, 5, 3, 6, 7, 7), nil, 4, 7, 2, bids(1, 0, 3, 0, 7, 0), 3, entries(1, 4)},             // three nested ones of which the same is asked
		{atoms(3, 6, 6, 6), entries(2, 3), 1, 3, 3, bids(3, 3, 6, 3), 2, entries(2, 3, 3, 4, 6, 4)},   // what is asked for a set within both
		{atoms(2, 6, 1, 4, 0, 9, 5, 4, 8, 0), nil, 3, 6, 2, bids(1, 0, 2, 0), 2, entries(1, 3, 2, 3)}, // of a list that isn't normal, in order
		{atoms(1, big), nil, big, big, 1, bids(1, 0), 1, entries(1, big)},
		{atoms(1, big), entries(1, big-1), big, 1, 1, bids(1, big-1), 1, entries(1, top-1)}, // as much as Rise ever asks
		{atoms(1, big, -1, big), entries(2, top), 1, big, big, bids(1, 0), 1, entries(1, 1, 2, top)},
		{atoms(1, 1, 3, 2), entries(1, 1), 1, 1, 1, bids(3, 1), 1, entries(1, 1, 3, 2)},
		{atoms(1, 1, 3, 2), entries(1, 1), 2, 1, 1, bids(1, 1, 3, 1), 1, entries(1, 1, 3, 3)},                      // {0} is wanted, but asked what it is worth
		{atoms(math.MinInt64, 7, 1, 7), nil, 1, 7, 7, bids(1, 0, math.MinInt64, 0), 2, entries(1, 1, 1<<62*-2, 1)}, // the item 63
	} {
		a := agentOf(r.atoms, r.entries, r.eps)
		if a.Best() != r.best || a.Rounds() != r.rounds || a.Done() != (r.best == 0) {
			t.Errorf("%d: best surplus %d, %d rounds, done %v", i, a.Best(), a.Rounds(), a.Done())
		}
		checkList(t, "bids", a.Bids(), r.bids)
		if n := a.Rise(); n != r.rises {
			t.Errorf("%d: Rise is %d, not %d", i, n, r.rises)
		}
		if !a.Prices().Same(price.Of(r.then)) {
			t.Errorf("%d: asked behind Rise: %v, not %v", i, a.Prices().List(), r.then)
		}
	}
}

// P19.1: eps below 1 counts as 1, above 2^40 as that.
func TestEps(t *testing.T) {
	for eps, want := range map[int64]int64{
		math.MinInt64: 1, -big: 1, -1: 1, 0: 1, 1: 1, 2: 2, 3: 3, big - 1: big - 1, big: big, big + 1: big, top: big, math.MaxInt64: big,
	} {
		a := agentOf(atoms(1, big), nil, eps)
		rounds := big / want
		if rounds*want < big {
			rounds++
		}
		if n := a.Rounds(); n != rounds {
			t.Errorf("eps %d: %d rounds, not %d", eps, n, rounds)
		}
		if n := a.Rise(); n != 1 || a.Ask(1) != want {
			t.Errorf("eps %d: Rise of %d lets %d be asked", eps, n, a.Ask(1))
		}
		near := agentOf(atoms(1, big, 2, big-1), nil, eps)
		if n := len(near.Bids()); (n == 2) != (want > 1) {
			t.Errorf("eps %d: %d are wanted", eps, n)
		}
	}
}

// P19.1: surplus, ask and what is paid of sets that are no atoms.
func TestSets(t *testing.T) {
	a := agentOf(atoms(1, 5, 6, 9, 15, 20), entries(2, 3, 1, 6, 7, 8), 1)
	for _, r := range []struct {
		s                  uint64
		surplus, ask, pays int64
	}{
		{0, 0, 0, 0}, {1, 0, 6, 5}, {2, 0, 3, 0}, {3, 0, 6, 5}, {4, 0, 0, 0}, {5, 0, 6, 5}, {6, 6, 3, 3}, {7, 1, 8, 8}, {14, 6, 3, 3}, {15, 12, 8, 8}, {1 << 63, 0, 0, 0}, {every - 1, 6, 3, 3}, {every, 12, 8, 8},
	} {
		if a.Surplus(r.s) != r.surplus || a.Ask(r.s) != r.ask || a.Pays(r.s) != r.pays {
			t.Errorf("of %b the surplus is %d, asked %d, paid %d, not %d, %d, %d", r.s, a.Surplus(r.s), a.Ask(r.s), a.Pays(r.s), r.surplus, r.ask, r.pays)
		}
	}
}

// P19.1: an agent of nothing, without a store, or never made of anything.
func TestNothing(t *testing.T) {
	none := modelOf(nil, nil, 1)
	for _, a := range []*proxy.Agent{proxy.New(xor.Val{}, nil, 0), proxy.New(xor.New(nil), &price.Store{}, -7), {}, new(proxy.Agent).Clone(), proxy.New(xor.New(atoms(0, 5, 1, 0, 1, -1, 1, big+1)), price.Of(nil), 3)} {
		checkAgent(t, "an agent of nothing", a, none)
		if n := a.Rise(); n != 0 {
			t.Errorf("Rise is %d", n)
		}
		n := 0
		for i, bs := range a.Course(5) {
			if i != 0 || len(bs) != 0 || n != 0 {
				t.Errorf("it goes on: %d, %v", i, bs)
			}
			n++
		}
		if n != 1 {
			t.Errorf("it bids %d times", n)
		}
		checkAgent(t, "still an agent of nothing", a, none)
	}
	a, m := proxy.New(xor.New(atoms(1, 5)), nil, 2), modelOf(atoms(1, 5), nil, 2)
	checkAgent(t, "without a store", a, m)
	if a.Rise() != m.rise() {
		t.Error("without a store it rises otherwise")
	}
	checkAgent(t, "without a store, behind Rise", a, m)
}

// P19.1: all calls, behind each rise, of agents at random.
func TestAtRandom(t *testing.T) {
	rnd := rand.New(rand.NewPCG(1, 190))
	counted := 0
	for _, g := range agents(1) {
		a, m := g.agent(), g.model()
		for range 12 {
			checkAgent(t, "an agent", a, m, setsFor(rnd, m.atoms)...)
			got, want := a.Rise(), m.rise()
			if got != want {
				t.Fatalf("Rise of %v is %d, not %d", g, got, want)
			}
			counted += want
		}
		checkAgent(t, "behind all", a, m, setsFor(rnd, m.atoms)...)
	}
	if counted < 1500 {
		t.Errorf("%d rises alone", counted)
	}
}

// P19.2: a rise lets the best surplus fall by eps, or to 0; what is wanted is so behind it too.
func TestRise(t *testing.T) {
	for _, g := range agents(2) {
		a, eps := g.agent(), min(max(g.eps, 1), big)
		for range 20 {
			best, wants, asked := a.Best(), slices.Collect(a.Wants()), a.Prices()
			a.Rise()
			if a.Best() != max(best-eps, 0) {
				t.Errorf("%v: the best surplus was %d, is %d", g, best, a.Best())
			}
			then := slices.Collect(a.Wants())
			for _, x := range wants {
				if !slices.Contains(then, x) {
					t.Errorf("%v: %v is wanted no more", g, x)
				}
			}
			if s, less := a.Prices().Less(asked); less || best == 0 && !a.Prices().Same(asked) {
				t.Errorf("%v: less is asked for %b, or more of one that is done", g, s)
			}
		}
	}
}

// P19.2: where asks came of Rise alone, for no atom more than its value and eps, less 1, is asked.
func TestAsksOfRiseAlone(t *testing.T) {
	met := false
	for _, g := range agents(3) {
		g.entries = nil
		a, eps := g.agent(), min(max(g.eps, 1), big)
		for range 20 {
			a.Rise()
			for _, x := range g.normal() {
				if a.Ask(x.Set) > x.Value+eps-1 {
					t.Errorf("%v: %d is asked for %v", g, a.Ask(x.Set), x)
				}
				met = met || a.Ask(x.Set) == x.Value+eps-1 && eps > 1
			}
		}
	}
	if !met {
		t.Error("none was asked as much as may be")
	}
}

// P19.3: Rise can be called till it is done as many times as Rounds says, and then once less each time.
func TestRounds(t *testing.T) {
	for _, g := range agents(4) {
		a := g.agent()
		for n := a.Rounds(); n > 0; n-- {
			if a.Done() || a.Rise() == 0 || a.Rounds() != n-1 {
				t.Fatalf("%v: done %v, %d rounds, not %d", g, a.Done(), a.Rounds(), n-1)
			}
		}
		if !a.Done() || a.Rise() != 0 || a.Rounds() != 0 || a.Best() != 0 {
			t.Errorf("%v isn't done behind all rounds", g)
		}
	}
	for _, r := range []struct{ value, eps, rounds int64 }{
		{1, 1, 1}, {1, 2, 1}, {2, 2, 1}, {3, 2, 2}, {4, 2, 2}, {10, 3, 4}, {9, 3, 3}, {big, 1, big}, {big, 2, big / 2}, {big, 3, big/3 + 1}, {big, big, 1}, {big, big - 1, 2}, {big - 1, big, 1},
	} {
		if n := agentOf(atoms(1, r.value), nil, r.eps).Rounds(); n != r.rounds {
			t.Errorf("of %d, eps %d, there are %d rounds, not %d", r.value, r.eps, n, r.rounds)
		}
	}
}

// bidden is what is told of a course at once.
type bidden struct {
	rises int
	bids  []api.Bid
}

// courseOf is what an agent that is held to this bids, rise by rise.
func courseOf(m *model, most int) []bidden {
	m = m.clone()
	var all []bidden
	for n := 0; n < most; n++ {
		all = append(all, bidden{n, m.bids()})
		if m.best() == 0 {
			break
		}
		m.rise()
	}
	return all
}

// gather is all that comes, up to so many.
func gather(seq iter.Seq2[int, []api.Bid], most int) []bidden {
	var all []bidden
	for n, bs := range seq {
		all = append(all, bidden{n, bs})
		if len(all) >= most {
			break
		}
	}
	return all
}

// checkCourse: a course is what it should be.
func checkCourse(t *testing.T, what string, got, want []bidden) {
	t.Helper()
	if !slices.EqualFunc(got, want, func(a, b bidden) bool { return a.rises == b.rises && slices.Equal(a.bids, b.bids) }) {
		t.Errorf("%s: %v, not %v", what, got, want)
	}
}

// P19.1: the course by hand: up to the first bids with which it is done, at most so many times.
func TestCourseByHand(t *testing.T) {
	a := agentOf(atoms(1, 5, 3, 8), nil, 3)
	whole := []bidden{{0, bids(3, 0)}, {1, bids(1, 0, 3, 3)}, {2, bids(1, 3, 3, 6)}, {3, bids(1, 5, 3, 8)}}
	for most, n := range map[int]int{math.MinInt: 0, -1: 0, 0: 0, 1: 1, 2: 2, 3: 3, 4: 4, 5: 4, 1000: 4, math.MaxInt: 4} {
		checkCourse(t, "Course", gather(a.Course(most), 100), whole[:n])
	}
	checkAgent(t, "behind courses", a, modelOf(atoms(1, 5, 3, 8), nil, 3))
	a.Rise()
	checkCourse(t, "Course behind Rise", gather(a.Course(2), 100), []bidden{{0, whole[1].bids}, {1, whole[2].bids}})
	done := agentOf(atoms(1, 5), entries(1, 5), 3)
	checkCourse(t, "Course of one that is done", gather(done.Course(9), 100), []bidden{{0, bids(1, 5)}})
}

// P19.1, P19.3: courses at random; the whole one has a bid more than there are rounds, with the last of which it is done.
func TestCourseAtRandom(t *testing.T) {
	for i, g := range agents(5) {
		a, m := g.agent(), g.model()
		for range i % 3 {
			a.Rise()
			m.rise()
		}
		checkCourse(t, "Course", gather(a.Course(i%7), 100), courseOf(m, i%7))
		whole := gather(a.Course(math.MaxInt), 1000)
		checkCourse(t, "the whole Course", whole, courseOf(m, 1000))
		if int64(len(whole)) != a.Rounds()+1 {
			t.Errorf("%v bids %d times, of %d rounds", g, len(whole), a.Rounds())
		}
		checkAgent(t, "behind courses", a, m)
	}
}

// P19.1: the course goes on as long as more is asked for, and once more too; it makes no more than that.
func TestCourseStops(t *testing.T) {
	a := agentOf(atoms(1, 5, 3, 8), nil, 3)
	seq := a.Course(9)
	want := gather(a.Course(9), 100)
	for n := range len(want) + 1 {
		var got []bidden
		seq(func(rises int, bs []api.Bid) bool {
			if len(got) > n {
				t.Error("Course goes on when no more is asked for")
			}
			got = append(got, bidden{rises, bs})
			return len(got) <= n
		})
		checkCourse(t, "Course", got, want[:min(n+1, len(want))])
	}
	for range seq {
		checkCourse(t, "Course within itself", gather(seq, 100), want)
	}
	soon(t, "the beginning of a long course", func() {
		long := agentOf(atoms(1, big), nil, 1)
		if got := gather(long.Course(math.MaxInt), 3); len(got) != 3 || !slices.Equal(got[2].bids, bids(1, 2)) {
			t.Errorf("it begins with %v", got)
		}
	})
}

// P19.1: what is wanted comes as long as more is asked for, and once more too.
func TestWantsStop(t *testing.T) {
	a := agentOf(atoms(1, 5, 2, 7, 4, 6, 12, 8, 3, 10), entries(3, 3), 3)
	want := atoms(2, 7, 4, 6, 3, 10, 12, 8)
	seq := a.Wants()
	for n := range len(want) + 1 {
		var got []api.Atom
		seq(func(x api.Atom) bool {
			if len(got) > n {
				t.Error("Wants goes on when no more is asked for")
			}
			got = append(got, x)
			return len(got) <= n
		})
		checkList(t, "wanted", got, want[:min(n+1, len(want))])
	}
	for range seq {
		checkList(t, "wanted within itself", slices.Collect(seq), want)
	}
}

// P2 of the whole: rises behind a call have no part in what goes on.
func TestRisesOnTheWay(t *testing.T) {
	for _, g := range agents(6) {
		a, m := g.agent(), g.model()
		wants, course := a.Wants(), a.Course(4)
		var got []api.Atom
		for x := range wants {
			got = append(got, x)
			a.Rise()
		}
		checkList(t, "wanted, with rises on the way", got, m.wants())
		var told []bidden
		for n, bs := range course {
			told = append(told, bidden{n, bs})
			a.Rise()
		}
		checkCourse(t, "Course, with rises on the way", told, courseOf(m, 4))
		checkList(t, "wanted, once more", slices.Collect(wants), m.wants())
		checkCourse(t, "Course, once more", gather(course, 100), courseOf(m, 4))
	}
}

// P19.4: clones go their own ways, and copies too.
func TestClonesGoTheirOwnWays(t *testing.T) {
	for _, g := range agents(7) {
		a, m := g.agent(), g.model()
		a.Rise()
		m.rise()
		b, n := a.Clone(), m.clone()
		c, o := *a, m.clone()
		if b.Rise() != n.rise() {
			t.Error("a clone rises otherwise")
		}
		checkAgent(t, "behind the clone's rise", a, m)
		for range 3 {
			a.Rise()
			m.rise()
		}
		checkAgent(t, "the agent", a, m)
		checkAgent(t, "the clone", b, n)
		checkAgent(t, "the copy", &c, o)
		for range 2 {
			c.Rise()
			o.rise()
		}
		checkAgent(t, "the agent behind its copy", a, m)
		checkAgent(t, "the copy behind its rises", &c, o)
		checkAgent(t, "the clone behind all", b, n)
	}
}

// P19.4: the store that is handed in, and those that are answered, are others than the agent's.
func TestStoresAreOthers(t *testing.T) {
	for _, g := range agents(8) {
		p, m := price.Of(g.entries), g.model()
		kept := p.Clone()
		a := proxy.New(xor.New(g.atoms), p, g.eps)
		for range 3 {
			a.Rise()
			m.rise()
		}
		if !p.Same(kept) {
			t.Errorf("%v: the store that was handed in is turned", g)
		}
		q, r := a.Prices(), a.Prices()
		for i, store := range []*price.Store{p, q} {
			store.Put(1, top-int64(i))
			store.Put(every, top)
		}
		checkAgent(t, "behind what was put", a, m)
		if !r.Same(a.Prices()) {
			t.Errorf("%v: two stores of one agent are the same one", g)
		}
		a.Rise()
		m.rise()
		checkAgent(t, "behind another rise", a, m)
	}
}

// P19.4: bids are new memory each time, spare room too, also in a course; atoms may be written over behind the call.
func TestAnswersAreNew(t *testing.T) {
	overwrite := func(bs []api.Bid) {
		for i := range bs[:cap(bs)] {
			bs[:cap(bs)][i] = api.Bid{Set: 99, Price: -99}
		}
	}
	for _, g := range agents(9) {
		g.atoms = slices.Clone(g.atoms)
		a, m := g.agent(), g.model()
		clear(g.atoms)
		clear(g.entries)
		one, other := a.Bids(), a.Bids()
		overwrite(one)
		checkList(t, "other bids", other, m.bids())
		var held, got []bidden
		for n, bs := range a.Course(4) {
			held = append(held, bidden{n, bs})
		}
		for n, bs := range a.Course(4) {
			got = append(got, bidden{n, slices.Clone(bs)})
			overwrite(bs)
		}
		checkCourse(t, "Course, written over", got, courseOf(m, 4))
		checkCourse(t, "Course, held", held, courseOf(m, 4))
		for i := range held {
			overwrite(held[i].bids)
			checkCourse(t, "Course behind it", held[i+1:], courseOf(m, 4)[i+1:])
		}
		checkAgent(t, "behind all", a, m)
	}
}

// P1 of the whole: agents of many atoms end, too.
func TestManyAtoms(t *testing.T) {
	rnd := rand.New(rand.NewPCG(10, 19))
	var as []api.Atom
	for range 3000 {
		as = append(as, api.Atom{Set: rnd.Uint64(), Value: 1 + rnd.Int64N(big)})
	}
	soon(t, "a call of an agent of many atoms", func() {
		a := agentOf(as, nil, big/2)
		n, want := a.Rise(), 0
		most := a.Val().Most()
		for _, x := range a.Val().Atoms() {
			if x.Value > most-big/2 {
				want++
			}
		}
		if n != want || n < 1000 || a.Best() != most-big/2 {
			t.Errorf("Rise is %d, not %d; the best surplus %d", n, want, a.Best())
		}
		if got := gather(a.Course(9), 100); len(got) != int(a.Rounds())+1 || len(got[len(got)-1].bids) != a.Val().Len() {
			t.Errorf("it bids %d times", len(got))
		}
	})
}

// P2 of the whole: the same calls are answered the same.
func TestAnswersHangOnCalls(t *testing.T) {
	for _, g := range agents(11) {
		first := gather(g.agent().Course(6), 100)
		for range 3 {
			a := g.agent()
			checkCourse(t, "Course of the same agent", gather(a.Course(6), 100), first)
			checkCourse(t, "Course once more", gather(a.Course(6), 100), first)
		}
	}
}
