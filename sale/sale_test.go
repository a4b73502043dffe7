// The tests of layer 23. Above each stands the promise that it holds the program to.
package sale_test

import (
	"iter"
	"math"
	"math/rand/v2"
	"slices"
	"testing"
	"time"

	"saleroom/api"
	"saleroom/limit"
	"saleroom/round"
	"saleroom/sale"
	"saleroom/xor"
)

const (
	big    int64 = 1 << 40 // the greatest amount, eps and number of rounds
	plenty       = 1 << 40 // rounds that are always enough
)

// atoms are atoms told as sets and values in turn.
func atoms(numbers ...int64) []api.Atom {
	var as []api.Atom
	for i := 0; i < len(numbers); i += 2 {
		as = append(as, api.Atom{Set: uint64(numbers[i]), Value: numbers[i+1]})
	}
	return as
}

// list is amounts, as a list.
func list(ns ...int64) []int64 { return ns }

// told is what a sale is made of: reserves, the parties with their atoms, and eps.
type told struct {
	reserves []int64
	parties  []int
	atoms    [][]api.Atom
	eps      int64
}

// open is an open sale to which all of it was told.
func (d told) open(t *testing.T) *sale.Sale {
	t.Helper()
	s, e := sale.New(len(d.reserves), d.reserves)
	if e != api.OK || s == nil {
		t.Fatalf("New of %v: %d", d.reserves, e)
	}
	for i, p := range d.parties {
		if e := s.Register(p); e != api.OK {
			t.Fatalf("Register of %d: %d", p, e)
		}
		if e := s.Submit(p, d.atoms[i]); e != api.OK {
			t.Fatalf("Submit of %d: %d", p, e)
		}
	}
	return s
}

// running is a sale that runs.
func (d told) running(t *testing.T) *sale.Sale {
	t.Helper()
	s := d.open(t)
	if _, e := s.Close(d.eps, plenty); e != api.OK {
		t.Fatalf("Close: %d", e)
	}
	return s
}

// ended is a sale that has ended.
func (d told) ended(t *testing.T) *sale.Sale {
	t.Helper()
	s := d.running(t)
	drain(s.Run(math.MaxInt))
	if s.Phase() != api.Ended {
		t.Fatalf("behind Run the phase is %d", s.Phase())
	}
	return s
}

// two is a sale of two items and two parties, of some rounds.
func two() told {
	return told{list(2, 0), []int{7, 3}, [][]api.Atom{atoms(1, 6, 3, 9), atoms(3, 7, 2, 4)}, 1}
}

// drain is all that comes.
func drain[T any](seq iter.Seq[T]) []T { return slices.Collect(seq) }

// atomsOf are the atoms of a valuation.
func atomsOf(v xor.Val) []api.Atom {
	var as []api.Atom
	for _, x := range v.Atoms() {
		as = append(as, x)
	}
	return as
}

// model is what a sale is held to. Its rounds are a floor's, to which its bidders are laid in the order that the document says.
type model struct {
	phase    int
	reserves []int64
	vals     map[int]xor.Val
	floor    *round.Floor
	last     []api.Pick
}

// items is the set of the items, bit by bit.
func (m *model) items() uint64 {
	var all uint64
	for i := range m.reserves {
		all |= 1 << i
	}
	return all
}

// parties are the parties by rising number, each number tried.
func (m *model) parties() []int {
	var all []int
	for p := range 1001 {
		if _, is := m.vals[p]; is {
			all = append(all, p)
		}
	}
	return all
}

// bidders are the valuations of the floor: the parties', then one of each reserve above 0.
func (m *model) bidders() []xor.Val {
	var vs []xor.Val
	for _, p := range m.parties() {
		vs = append(vs, m.vals[p])
	}
	for i, n := range m.reserves {
		if n > 0 {
			vs = append(vs, xor.New([]api.Atom{{Set: 1 << i, Value: n}}))
		}
	}
	return vs
}

func (m *model) plan(eps int64, allowed int) limit.Plan {
	p := limit.Plan{Items: len(m.reserves), Cap: allowed, Eps: eps}
	for _, v := range m.bidders() {
		p.Most = append(p.Most, v.Most())
	}
	return p
}

func (m *model) register(party int) api.Errno {
	if m.phase != api.Open {
		return api.ErrPhase
	}
	if party < 2 || party > 1000 {
		return api.ErrArg
	}
	if _, is := m.vals[party]; is {
		return api.ErrTwice
	}
	if len(m.vals) == 64 {
		return api.ErrMany
	}
	m.vals[party] = xor.Val{}
	return api.OK
}

func (m *model) submit(party int, as []api.Atom) api.Errno {
	if m.phase != api.Open {
		return api.ErrPhase
	}
	if _, is := m.vals[party]; !is {
		return api.ErrNone
	}
	if len(as) > 64 {
		return api.ErrMany
	}
	for _, a := range as {
		if a.Set|m.items() != m.items() || a.Value < 0 || a.Value > big {
			return api.ErrArg
		}
	}
	m.vals[party] = xor.New(as)
	return api.OK
}

func (m *model) close(eps int64, allowed int) (int64, api.Errno) {
	if m.phase != api.Open {
		return 0, api.ErrPhase
	}
	n, e := m.plan(eps, allowed).Check()
	if e == api.OK {
		m.phase, m.floor = api.Running, round.New(m.bidders(), eps)
	}
	return n, e
}

func (m *model) step(n int) (round.Outcome, api.Errno) {
	if m.phase != api.Running {
		return round.Outcome{}, api.ErrPhase
	}
	if n != m.floor.Round()+1 {
		return round.Outcome{}, api.ErrRound
	}
	o := m.floor.Step()
	if o.Ended {
		m.phase, m.last = api.Ended, slices.Clone(o.Picks)
	}
	return o, api.OK
}

func (m *model) run(most int) []round.Outcome {
	var os []round.Outcome
	for m.phase == api.Running && len(os) < most {
		o, _ := m.step(m.floor.Round() + 1)
		os = append(os, o)
	}
	return os
}

// wins are the picks of parties, each looked for among all picks.
func (m *model) wins() []sale.Win {
	var ws []sale.Win
	for place, party := range m.parties() {
		for _, p := range m.last {
			if p.Bidder == place {
				ws = append(ws, sale.Win{Party: party, Set: p.Set, Value: m.vals[party].Value(p.Set), Price: p.Price})
			}
		}
	}
	return ws
}

func (m *model) unsold() uint64 {
	left := m.items()
	for _, w := range m.wins() {
		left -= w.Set
	}
	return left
}

// sameOutcome tells whether two rounds are the same.
func sameOutcome(a, b round.Outcome) bool {
	return a.Round == b.Round && slices.Equal(a.Picks, b.Picks) && a.Total == b.Total && slices.Equal(a.Sad, b.Sad) && slices.Equal(a.Out, b.Out) && a.Ended == b.Ended
}

// samePlan tells whether two plans are the same.
func samePlan(a, b limit.Plan) bool {
	return a.Items == b.Items && a.Cap == b.Cap && slices.Equal(a.Most, b.Most) && a.Eps == b.Eps
}

// checkOutcomes: rounds are what they should be.
func checkOutcomes(t *testing.T, what string, got, want []round.Outcome) {
	t.Helper()
	if !slices.EqualFunc(got, want, sameOutcome) {
		t.Errorf("%s: %+v, not %+v", what, got, want)
	}
}

// checkErr: a call answers the error that it should.
func checkErr(t *testing.T, what string, got, want api.Errno) {
	t.Helper()
	if got != want {
		t.Errorf("%s: error %d, not %d", what, got, want)
	}
}

// checkWins: wins are what they should be.
func checkWins(t *testing.T, what string, got, want []sale.Win) {
	t.Helper()
	if !slices.Equal(got, want) {
		t.Errorf("%s: wins %+v, not %+v", what, got, want)
	}
}

// checkSale: a sale answers all that it is held to.
func checkSale(t *testing.T, what string, s *sale.Sale, m *model) {
	t.Helper()
	left, rounds := int64(0), 0
	var book [][]api.Entry
	if m.floor != nil {
		rounds, book = m.floor.Round(), m.floor.Book()
	}
	if m.phase == api.Running {
		left = m.floor.Bound()
	}
	if s.Phase() != m.phase || s.Items() != m.items() || s.Left() != left || s.Round() != rounds || s.Unsold() != m.unsold() {
		t.Errorf("%s: phase %d, items %x, left %d, round %d, unsold %x, not %d, %x, %d, %d, %x", what, s.Phase(), s.Items(), s.Left(), s.Round(), s.Unsold(), m.phase, m.items(), left, rounds, m.unsold())
	}
	if !slices.Equal(s.Reserves(), m.reserves) {
		t.Errorf("%s: reserves %v, not %v", what, s.Reserves(), m.reserves)
	}
	if !slices.EqualFunc(s.Book(), book, slices.Equal) {
		t.Errorf("%s: asked %v, not %v", what, s.Book(), book)
	}
	if !slices.Equal(s.All(), m.last) {
		t.Errorf("%s: all picks %v, not %v", what, s.All(), m.last)
	}
	checkWins(t, what, s.Picks(), m.wins())
	if p, want := s.Plan(3, 17), m.plan(3, 17); !samePlan(p, want) {
		t.Errorf("%s: plan %+v, not %+v", what, p, want)
	}
	checkParties(t, what, s, m)
}

// checkParties: a sale has the parties that it should, with their valuations.
func checkParties(t *testing.T, what string, s *sale.Sale, m *model) {
	t.Helper()
	var got []int
	for p, v := range s.Parties() {
		got = append(got, p)
		if !v.Same(m.vals[p]) {
			t.Errorf("%s: the party %d tells %v, not %v", what, p, atomsOf(v), atomsOf(m.vals[p]))
		}
	}
	if !slices.Equal(got, m.parties()) {
		t.Errorf("%s: parties %v, not %v", what, got, m.parties())
	}
	for _, p := range []int{math.MinInt, -1, 0, 1, 2, 3, 4, 5, 6, 7, 500, 999, 1000, 1001, math.MaxInt} {
		want, is := m.vals[p]
		if v, ok := s.Val(p); ok != is || !v.Same(want) {
			t.Errorf("%s: Val of %d: %v, %v, not %v, %v", what, p, atomsOf(v), ok, atomsOf(want), is)
		}
	}
}

// soon fails a test in which a call doesn't end.
func soon(t *testing.T, what string, do func()) {
	t.Helper()
	done := make(chan struct{})
	go func() {
		defer close(done)
		do()
	}()
	select {
	case <-done:
	case <-time.After(60 * time.Second):
		t.Fatalf("%s doesn't end", what)
	}
}

// toldAtRandom is what a sale is made of at random: of few parties, items and atoms.
func toldAtRandom(rnd *rand.Rand, n int) told {
	most := 1 + rnd.Int64N(12)
	d := told{eps: 1 + rnd.Int64N(4)}
	if n%6 == 0 {
		most, d.eps = big, []int64{big, big - 1, big/3 + 1, big / 2}[rnd.IntN(4)]
	}
	for range 1 + rnd.IntN(4) {
		d.reserves = append(d.reserves, max(rnd.Int64N(most+1)-rnd.Int64N(most+1), 0))
	}
	for _, i := range rnd.Perm(999)[:rnd.IntN(5)] {
		d.parties = append(d.parties, 2+i)
		d.atoms = append(d.atoms, atomsAtRandom(rnd, len(d.reserves), most))
	}
	return d
}

// atomsAtRandom are few atoms of items, some of them of no item or of no worth.
func atomsAtRandom(rnd *rand.Rand, items int, most int64) []api.Atom {
	var as []api.Atom
	for range rnd.IntN(5) {
		as = append(as, api.Atom{Set: rnd.Uint64N(1 << items), Value: rnd.Int64N(most + 1)})
	}
	return as
}

// P23.1: the document's example.
func TestExample(t *testing.T) {
	s := told{list(4), []int{2, 3}, [][]api.Atom{atoms(1, 6), atoms(1, 3)}, 1}.ended(t)
	checkWins(t, "the example", s.Picks(), []sale.Win{{Party: 2, Set: 1, Value: 6, Price: 4}})
	if s.Unsold() != 0 {
		t.Errorf("unsold %x", s.Unsold())
	}
}

// P23.1: a new sale, and the arguments of which there is none.
func TestNew(t *testing.T) {
	full := make([]int64, 64)
	for i := range full {
		full[i] = big
	}
	for i, c := range []struct {
		items    int
		reserves []int64
		want     api.Errno
	}{
		{1, list(0), api.OK}, {1, list(big), api.OK}, {3, list(0, 5, big), api.OK}, {64, full, api.OK}, {64, make([]int64, 64), api.OK},
		{0, nil, api.ErrArg}, {0, list(), api.ErrArg}, {0, list(1), api.ErrArg}, {-1, nil, api.ErrArg}, {65, make([]int64, 65), api.ErrArg}, {65, full, api.ErrArg},
		{math.MinInt, nil, api.ErrArg}, {math.MaxInt, nil, api.ErrArg}, {1, nil, api.ErrArg}, {1, list(1, 2), api.ErrArg}, {2, list(1), api.ErrArg}, {64, full[1:], api.ErrArg},
		{1, list(-1), api.ErrArg}, {1, list(big + 1), api.ErrArg}, {2, list(0, math.MinInt64), api.ErrArg}, {2, list(0, math.MaxInt64), api.ErrArg}, {3, list(1, -1, 1), api.ErrArg},
	} {
		s, e := sale.New(c.items, c.reserves)
		checkErr(t, "New", e, c.want)
		if (s == nil) != (c.want != api.OK) {
			t.Errorf("case %d: the sale is %v beside %d", i, s, e)
		}
		if s != nil {
			checkSale(t, "a new sale", s, &model{phase: api.Open, reserves: c.reserves})
		}
	}
}

// P23.1: who may be a bidder, and when.
func TestRegister(t *testing.T) {
	s := told{reserves: list(1)}.open(t)
	for _, c := range []struct {
		party int
		want  api.Errno
	}{
		{2, api.OK}, {1000, api.OK}, {2, api.ErrTwice}, {1000, api.ErrTwice}, {500, api.OK},
		{0, api.ErrArg}, {1, api.ErrArg}, {-1, api.ErrArg}, {-2, api.ErrArg}, {1001, api.ErrArg}, {math.MinInt, api.ErrArg}, {math.MaxInt, api.ErrArg},
	} {
		checkErr(t, "Register", s.Register(c.party), c.want)
	}
	for p := 3; p <= 63; p++ {
		checkErr(t, "Register", s.Register(p), api.OK)
	}
	checkErr(t, "a 65th", s.Register(64), api.ErrMany)
	checkErr(t, "one of 64 again", s.Register(63), api.ErrTwice)
	checkErr(t, "one that isn't a party, of 64", s.Register(1), api.ErrArg)
	if _, ok := s.Val(64); ok {
		t.Error("the 65th is a bidder")
	}
	v, ok := s.Val(500)
	if !ok || v.Len() != 0 {
		t.Errorf("a new bidder's valuation: %v, %v", atomsOf(v), ok)
	}
	checkErr(t, "Submit", s.Submit(500, atoms(1, 5)), api.OK)
	checkErr(t, "a bidder again", s.Register(500), api.ErrTwice)
	if v, _ := s.Val(500); v.Most() != 5 {
		t.Errorf("behind what is refused its valuation is %v", atomsOf(v))
	}
	ended := two().ended(t)
	for _, p := range []int{9, 7, 1} {
		checkErr(t, "Register behind the end", ended.Register(p), api.ErrPhase)
	}
}

// P23.1: what a bidder may tell, and when.
func TestSubmit(t *testing.T) {
	s := told{list(0, 0, 0), []int{2, 4}, make([][]api.Atom, 2), 1}.open(t)
	many := slices.Repeat(atoms(1, 3), 65)
	for _, c := range []struct {
		party int
		atoms []api.Atom
		want  api.Errno
	}{
		{3, nil, api.ErrNone}, {1, nil, api.ErrNone}, {1001, many, api.ErrNone}, {5, atoms(8, -1), api.ErrNone},
		{2, many, api.ErrMany}, {2, slices.Repeat(atoms(8, 1), 65), api.ErrMany}, {2, atoms(8, 1), api.ErrArg}, {2, atoms(1, 1, 9, 1), api.ErrArg}, {2, atoms(-1, 1), api.ErrArg},
		{2, atoms(1, -1), api.ErrArg}, {2, atoms(1, big+1), api.ErrArg}, {2, atoms(1, 1, 2, math.MinInt64), api.ErrArg}, {2, atoms(8, 0), api.ErrArg},
		{2, many[:64], api.OK}, {4, atoms(0, 5), api.OK}, {4, atoms(1, 0), api.OK}, {4, atoms(7, big), api.OK}, {4, nil, api.OK}, {4, atoms(7, 1), api.OK},
	} {
		m := &model{phase: api.Open, reserves: s.Reserves(), vals: map[int]xor.Val{}}
		for p, v := range s.Parties() {
			m.vals[p] = v
		}
		checkErr(t, "Submit", s.Submit(c.party, c.atoms), c.want)
		if c.want == api.OK {
			m.vals[c.party] = xor.New(c.atoms)
		}
		checkSale(t, "behind Submit", s, m)
	}
	checkErr(t, "Submit of {0}, {0,1}, {1}", s.Submit(2, atoms(1, 5, 3, 5, 2, 3, 2, 2, 0, 9, 4, 0)), api.OK)
	if v, _ := s.Val(2); !slices.Equal(atomsOf(v), atoms(1, 5, 2, 3)) {
		t.Errorf("the valuation is %v", atomsOf(v))
	}
	ended := two().ended(t)
	for _, p := range []int{3, 9} {
		checkErr(t, "Submit behind the end", ended.Submit(p, many), api.ErrPhase)
	}
}

// P23.1: the plan, and when a sale may run.
func TestClose(t *testing.T) {
	s := two().open(t) // of 3, of 7, of the reserve: 7, 9, 2
	if p := s.Plan(-4, -5); !samePlan(p, limit.Plan{Items: 2, Cap: -5, Most: list(7, 9, 2), Eps: -4}) {
		t.Errorf("the plan is %+v", p)
	}
	for _, c := range []struct {
		eps     int64
		allowed int
		rounds  int64
		want    api.Errno
	}{
		{0, plenty, 0, api.ErrArg}, {-1, plenty, 0, api.ErrArg}, {big + 1, plenty, 0, api.ErrArg}, {math.MinInt64, -1, 0, api.ErrArg}, {math.MaxInt64, 0, 0, api.ErrArg},
		{1, 17, 0, api.ErrBound}, {1, -1, 0, api.ErrBound}, {1, math.MinInt, 0, api.ErrBound}, {big, 2, 0, api.ErrBound}, {4, 5, 0, api.ErrBound},
		{1, 18, 18, api.OK}, {1, math.MaxInt, 18, api.OK}, {4, 6, 6, api.OK}, {big, 3, 3, api.OK}, {3, 8, 7, api.OK},
	} {
		at := s.Clone()
		n, e := at.Close(c.eps, c.allowed)
		checkErr(t, "Close", e, c.want)
		phase, left, places := api.Open, int64(0), 0
		if c.want == api.OK {
			phase, left, places = api.Running, c.rounds, 3
		}
		if n != c.rounds || at.Phase() != phase || at.Left() != left || len(at.Book()) != places || at.Round() != 0 || at.Unsold() != 3 {
			t.Errorf("eps %d, %d allowed: %d; then phase %d, left %d, %d bidders, round %d, unsold %x", c.eps, c.allowed, n, at.Phase(), at.Left(), len(at.Book()), at.Round(), at.Unsold())
		}
		if n, e := at.Close(c.eps, c.allowed); c.want == api.OK && (n != 0 || e != api.ErrPhase) {
			t.Errorf("Close once more: %d, %d", n, e)
		}
	}
}

// P23.1: as many bidders, reserve bidders too, as may be, and one more.
func TestMany(t *testing.T) {
	for _, c := range []struct {
		parties, reserves int
		want              api.Errno
	}{{64, 0, api.OK}, {0, 64, api.OK}, {32, 32, api.OK}, {64, 1, api.ErrMany}, {1, 64, api.ErrMany}, {33, 32, api.ErrMany}, {64, 64, api.ErrMany}} {
		d := told{reserves: make([]int64, 64)}
		for i := range c.reserves {
			d.reserves[63-i] = 2
		}
		for i := range c.parties {
			d.parties = append(d.parties, 1000-i)
			d.atoms = append(d.atoms, atoms(1<<(i%2), 3))
		}
		s := d.open(t)
		n, e := s.Close(1, plenty)
		checkErr(t, "Close", e, c.want)
		if c.want != api.OK {
			if n != 0 || s.Phase() != api.Open {
				t.Errorf("%d beside an error, phase %d", n, s.Phase())
			}
			continue
		}
		if n != int64(3*c.parties+2*c.reserves) || len(s.Book()) != 64 {
			t.Errorf("%d rounds, %d bidders", n, len(s.Book()))
		}
		soon(t, "a sale of 64 bidders", func() { drain(s.Run(plenty)) })
		if s.Phase() != api.Ended || int64(s.Round()) > n+1 {
			t.Errorf("phase %d behind %d rounds", s.Phase(), s.Round())
		}
	}
}

// P23.1: a sale from its beginning to its end, by hand.
func TestByHand(t *testing.T) {
	s := told{list(2, 0, 1), []int{9, 4}, [][]api.Atom{atoms(1, 5), atoms(1, 4, 2, 3)}, 1}.running(t)
	// Places: 4, 9, the reserves of item 0 and of item 2.
	for i, want := range []struct {
		o    round.Outcome
		left int64
	}{
		{round.Outcome{Round: 1, Picks: []api.Pick{{Bidder: 0, Set: 1}, {Bidder: 3, Set: 4}}, Sad: []int{1, 2}}, 4 + 4 + 1 + 1},
		{round.Outcome{Round: 2, Picks: []api.Pick{{Bidder: 1, Set: 1, Price: 1}, {Bidder: 3, Set: 4}}, Total: 1, Sad: []int{0, 2}}, 3 + 4 + 0 + 1},
		{round.Outcome{Round: 3, Picks: []api.Pick{{Bidder: 0, Set: 2}, {Bidder: 2, Set: 1, Price: 2}, {Bidder: 3, Set: 4}}, Total: 2, Sad: []int{1}}, 3 + 3 + 0 + 1},
		{round.Outcome{Round: 4, Picks: []api.Pick{{Bidder: 0, Set: 2}, {Bidder: 1, Set: 1, Price: 2}, {Bidder: 3, Set: 4}}, Total: 2, Out: []int{2}, Ended: true}, 0},
	} {
		o, e := s.Step(i + 1)
		checkErr(t, "Step", e, api.OK)
		checkOutcomes(t, "a round", []round.Outcome{o}, []round.Outcome{want.o})
		if s.Left() != want.left || s.Round() != i+1 {
			t.Errorf("round %d: left %d, not %d; round %d", i+1, s.Left(), want.left, s.Round())
		}
		if !want.o.Ended && (s.Phase() != api.Running || s.Picks() != nil || s.All() != nil || s.Unsold() != 7) {
			t.Errorf("round %d: phase %d, picks %v, all %v, unsold %x", i+1, s.Phase(), s.Picks(), s.All(), s.Unsold())
		}
	}
	wins := []sale.Win{{Party: 4, Set: 2, Value: 3, Price: 0}, {Party: 9, Set: 1, Value: 5, Price: 2}}
	for _, phase := range []int{api.Ended, api.Invoiced, api.Settled} {
		if s.Phase() != phase {
			t.Errorf("phase %d, not %d", s.Phase(), phase)
		}
		checkWins(t, "the sale", s.Picks(), wins)
		if want := []api.Pick{{Bidder: 0, Set: 2}, {Bidder: 1, Set: 1, Price: 2}, {Bidder: 3, Set: 4}}; !slices.Equal(s.All(), want) || s.Unsold() != 4 || s.Round() != 4 || s.Left() != 0 {
			t.Errorf("all %v, unsold %x, %d rounds, left %d", s.All(), s.Unsold(), s.Round(), s.Left())
		}
		if phase == api.Ended {
			checkErr(t, "Settle ahead of Invoice", s.Settle(), api.ErrPhase)
			ws, e := s.Invoice()
			checkErr(t, "Invoice", e, api.OK)
			checkWins(t, "the bill", ws, wins)
			continue
		}
		ws, e := s.Invoice()
		if ws != nil || e != api.ErrPhase {
			t.Errorf("Invoice of phase %d: %v, %d", phase, ws, e)
		}
		want := api.OK
		if phase == api.Settled {
			want = api.ErrPhase
		}
		checkErr(t, "Settle", s.Settle(), want)
	}
}

// P23.1: which calls each phase refuses, and that nothing turns by it.
func TestPhases(t *testing.T) {
	s := two().open(t)
	turns := []func(){
		func() {},
		func() { s.Close(1, plenty) },
		func() { drain(s.Run(plenty)) },
		func() { s.Invoice() },
		func() { s.Settle() },
	}
	for phase := api.Open; phase <= api.Settled; phase++ {
		turns[phase-api.Open]()
		if s.Phase() != phase {
			t.Fatalf("phase %d, not %d", s.Phase(), phase)
		}
		want := func(in int) api.Errno {
			if phase == in {
				return api.OK
			}
			return api.ErrPhase
		}
		checkErr(t, "Register", s.Clone().Register(20), want(api.Open))
		checkErr(t, "Submit", s.Clone().Submit(3, nil), want(api.Open))
		_, e := s.Clone().Close(1, plenty)
		checkErr(t, "Close", e, want(api.Open))
		o, e := s.Clone().Step(1)
		checkErr(t, "Step", e, want(api.Running))
		if phase != api.Running && !sameOutcome(o, round.Outcome{}) {
			t.Errorf("beside an error the round is %+v", o)
		}
		if n := len(drain(s.Clone().Run(1))); (n == 1) != (phase == api.Running) {
			t.Errorf("phase %d: %d rounds", phase, n)
		}
		_, e = s.Clone().Invoice()
		checkErr(t, "Invoice", e, want(api.Ended))
		checkErr(t, "Settle", s.Clone().Settle(), want(api.Invoiced))
	}
}

// P23.1: a step is told by its number.
func TestStep(t *testing.T) {
	s := two().running(t)
	for next := 1; s.Phase() == api.Running; next++ {
		left := s.Left()
		for _, n := range []int{math.MinInt, -1, 0, next - 1, next + 1, next + 2, math.MaxInt} {
			o, e := s.Step(n)
			if e != api.ErrRound || !sameOutcome(o, round.Outcome{}) || s.Round() != next-1 || s.Left() != left {
				t.Fatalf("Step of %d, where %d is next: %+v, %d; round %d, left %d", n, next, o, e, s.Round(), s.Left())
			}
		}
		o, e := s.Step(next)
		if e != api.OK || o.Round != next || s.Round() != next || o.Ended != (s.Phase() == api.Ended) {
			t.Fatalf("Step of %d: %+v, %d; round %d, phase %d", next, o, e, s.Round(), s.Phase())
		}
	}
	if s.Round() < 4 {
		t.Errorf("%d rounds alone", s.Round())
	}
	for _, n := range []int{s.Round(), s.Round() + 1} {
		_, e := s.Step(n)
		checkErr(t, "Step behind the end", e, api.ErrPhase)
	}
}

// P23.1: rounds one by one: at most so many, no more than is asked for, from where the sale is.
func TestRun(t *testing.T) {
	all := drain(two().running(t).Run(plenty))
	if len(all) < 4 || !all[len(all)-1].Ended || all[len(all)-2].Ended {
		t.Fatalf("all rounds: %+v", all)
	}
	for most := -2; most < len(all)+3; most++ {
		s := two().running(t)
		n := min(max(most, 0), len(all))
		checkOutcomes(t, "Run", drain(s.Run(most)), all[:n])
		if s.Round() != n || (s.Phase() == api.Ended) != (n == len(all)) {
			t.Errorf("Run of %d: round %d, phase %d", most, s.Round(), s.Phase())
		}
		checkOutcomes(t, "the rest", drain(s.Run(math.MaxInt)), all[n:])
		checkOutcomes(t, "behind the end", drain(s.Run(5)), nil)
	}
	if n := len(drain(two().running(t).Run(math.MinInt))); n != 0 {
		t.Errorf("%d rounds of at most the least number", n)
	}
}

// P23.1: rounds that are left off, and gone over again.
func TestRunStopped(t *testing.T) {
	all := drain(two().running(t).Run(plenty))
	s := two().running(t)
	run := s.Run(2)
	if s.Round() != 0 {
		t.Errorf("%d rounds ahead of the first that is asked for", s.Round())
	}
	for o := range run {
		checkOutcomes(t, "the first", []round.Outcome{o}, all[:1])
		if s.Round() != 1 {
			t.Errorf("within the first round %d", s.Round())
		}
		break
	}
	if s.Round() != 1 {
		t.Errorf("%d rounds behind the first", s.Round())
	}
	checkOutcomes(t, "again", drain(run), all[1:3])
	for o := range s.Run(plenty) {
		if (s.Phase() == api.Ended) != o.Ended {
			t.Errorf("round %d: within it the phase is %d", o.Round, s.Phase())
		}
	}
	checkOutcomes(t, "behind the end", drain(run), nil)
}

// P23.1: rounds while whoever takes them turns the sale, and rounds of a sale that isn't running yet.
func TestRunTurned(t *testing.T) {
	all := drain(two().running(t).Run(plenty))
	s := two().running(t)
	var got []round.Outcome
	for o := range s.Run(plenty) {
		got = append(got, o)
		if next, e := s.Step(o.Round + 1); e == api.OK {
			got = append(got, next)
		}
	}
	checkOutcomes(t, "rounds, each second one a step", got, all)
	s = two().running(t)
	n := 0
	for range s.Run(plenty) {
		n++
		drain(s.Run(plenty))
		s.Invoice()
	}
	if n != 1 || s.Phase() != api.Invoiced {
		t.Errorf("%d rounds, phase %d", n, s.Phase())
	}
	s = two().open(t)
	run := s.Run(1)
	checkOutcomes(t, "rounds of an open sale", drain(run), nil)
	if s.Round() != 0 || s.Phase() != api.Open {
		t.Errorf("round %d, phase %d", s.Round(), s.Phase())
	}
}

// P23.1: a sale of nobody, and one of the seller's alone.
func TestNobody(t *testing.T) {
	s := told{reserves: list(0, 0), eps: 1}.open(t)
	n, e := s.Close(1, 0)
	if n != 0 || e != api.OK || s.Left() != 0 || s.Phase() != api.Running || len(s.Book()) != 0 {
		t.Errorf("Close: %d, %d; left %d, phase %d", n, e, s.Left(), s.Phase())
	}
	checkOutcomes(t, "the round", drain(s.Run(9)), []round.Outcome{{Round: 1, Ended: true}})
	if s.Phase() != api.Ended || s.Unsold() != 3 {
		t.Errorf("phase %d, unsold %x", s.Phase(), s.Unsold())
	}
	ws, e := s.Invoice()
	if len(ws) != 0 || e != api.OK || s.Settle() != api.OK {
		t.Errorf("Invoice: %v, %d; phase %d", ws, e, s.Phase())
	}
	s = told{list(3, 0, 4), []int{5}, [][]api.Atom{nil}, 1}.ended(t)
	if want := []api.Pick{{Bidder: 1, Set: 1}, {Bidder: 2, Set: 4}}; !slices.Equal(s.All(), want) || s.Picks() != nil || s.Unsold() != 7 || s.Round() != 1 {
		t.Errorf("all %v, picks %v, unsold %x, round %d", s.All(), s.Picks(), s.Unsold(), s.Round())
	}
}

// P23.1: a sale that New didn't make answers that it is in no phase.
func TestNone(t *testing.T) {
	for _, s := range []*sale.Sale{{}, (&sale.Sale{}).Clone()} {
		checkSale(t, "no sale", s, &model{})
		checkErr(t, "Register", s.Register(2), api.ErrPhase)
		checkErr(t, "Submit", s.Submit(2, nil), api.ErrPhase)
		_, e := s.Close(1, plenty)
		checkErr(t, "Close", e, api.ErrPhase)
		_, e = s.Step(1)
		checkErr(t, "Step", e, api.ErrPhase)
		checkOutcomes(t, "Run", drain(s.Run(3)), nil)
		_, e = s.Invoice()
		checkErr(t, "Invoice", e, api.ErrPhase)
		checkErr(t, "Settle", s.Settle(), api.ErrPhase)
		checkSale(t, "no sale", s, &model{})
	}
}

// P23.1: the parties, as long as more is asked for, as they were when they were asked for.
func TestParties(t *testing.T) {
	s := told{list(0), []int{900, 2, 40}, [][]api.Atom{atoms(1, 1), atoms(1, 2), atoms(1, 3)}, 1}.open(t)
	parties := s.Parties()
	s.Register(3)
	s.Submit(2, nil)
	for range 2 {
		var got []int64
		for p, v := range parties {
			got = append(got, int64(p), v.Most())
		}
		if !slices.Equal(got, list(2, 2, 40, 3, 900, 1)) {
			t.Errorf("the parties and their values: %v", got)
		}
	}
	for p := range parties {
		if p != 2 {
			t.Errorf("the first one is %d", p)
		}
		break
	}
	for p := range s.Parties() {
		s.Register(p + 1) // isn't seen by it; 3 is a bidder already
	}
	if n := len(drain(keys(s.Parties()))); n != 4+3 {
		t.Errorf("%d parties", n)
	}
}

// keys are the keys of pairs.
func keys[K, V any](seq iter.Seq2[K, V]) iter.Seq[K] {
	return func(yield func(K) bool) {
		for k := range seq {
			if !yield(k) {
				return
			}
		}
	}
}

// P23.1: all calls in orders at random, right ones and wrong ones.
func TestAtRandom(t *testing.T) {
	rnd := rand.New(rand.NewPCG(1, 23))
	phases := map[int]int{}
	for n := range 400 {
		d := toldAtRandom(rnd, n)
		s, e := sale.New(len(d.reserves), d.reserves)
		checkErr(t, "New", e, api.OK)
		m := &model{phase: api.Open, reserves: d.reserves, vals: map[int]xor.Val{}}
		for range 40 {
			callAtRandom(t, rnd, d, s, m)
			checkSale(t, "behind a call", s, m)
			if t.Failed() {
				t.Fatalf("sale %d: %+v", n, d)
			}
		}
		phases[m.phase]++
	}
	for phase := api.Open; phase <= api.Settled; phase++ {
		if phases[phase] < 10 {
			t.Errorf("%d sales alone are in phase %d", phases[phase], phase)
		}
	}
}

// callAtRandom calls one of a sale's calls, and the same one of the model's.
func callAtRandom(t *testing.T, rnd *rand.Rand, d told, s *sale.Sale, m *model) {
	t.Helper()
	party := 1 + rnd.IntN(6)
	switch rnd.IntN(14) {
	case 0, 1:
		checkErr(t, "Register", s.Register(party), m.register(party))
	case 2, 3, 4:
		as := atomsAtRandom(rnd, len(d.reserves), 12)
		if rnd.IntN(4) == 0 {
			as = append(as, api.Atom{Set: rnd.Uint64N(2 << len(d.reserves)), Value: []int64{-1, 0, 5, big, big + 1}[rnd.IntN(5)]})
		}
		checkErr(t, "Submit", s.Submit(party, as), m.submit(party, as))
	case 5:
		eps, allowed := rnd.Int64N(6), rnd.IntN(40)
		got, e := s.Close(eps, allowed)
		want, f := m.close(eps, allowed)
		if got != want || e != f {
			t.Errorf("Close of eps %d, %d allowed: %d, %d, not %d, %d", eps, allowed, got, e, want, f)
		}
	case 6, 7, 8:
		n := s.Round() + rnd.IntN(3)
		got, e := s.Step(n)
		want, f := m.step(n)
		if !sameOutcome(got, want) || e != f {
			t.Errorf("Step of %d: %+v, %d, not %+v, %d", n, got, e, want, f)
		}
	case 9:
		most := rnd.IntN(8) - 1
		checkOutcomes(t, "Run", drain(s.Run(most)), m.run(most))
	case 10:
		got, e := s.Invoice()
		if m.phase == api.Ended {
			m.phase = api.Invoiced
			checkErr(t, "Invoice", e, api.OK)
			checkWins(t, "the bill", got, m.wins())
		} else if e != api.ErrPhase || got != nil {
			t.Errorf("Invoice: %v, %d", got, e)
		}
	case 11:
		want := api.ErrPhase
		if m.phase == api.Invoiced && rnd.IntN(2) == 0 {
			m.phase, want = api.Settled, api.OK
		} else if m.phase == api.Invoiced {
			return
		}
		checkErr(t, "Settle", s.Settle(), want)
	case 12: // its clone goes on in its place
		other := s.Clone()
		*s, *other = *other, *s
	case 13: // its clone goes its own way
		other := s.Clone()
		other.Register(900)
		other.Submit(party, atoms(1, 7))
		other.Close(1, plenty)
		drain(other.Run(2))
		other.Invoice()
		other.Settle()
	}
}

// worthAt is the greatest worth of any assignment of items to bidders, with what the seller keeps of what is left: all tried.
func worthAt(vs [][]api.Atom, reserves []int64, left uint64) int64 {
	if len(vs) == 0 {
		var kept int64
		for i, n := range reserves {
			if left>>i&1 == 1 {
				kept += n
			}
		}
		return kept
	}
	best := worthAt(vs[1:], reserves, left)
	for _, a := range vs[0] {
		if a.Set != 0 && a.Set&^left == 0 {
			best = max(best, a.Value+worthAt(vs[1:], reserves, left&^a.Set))
		}
	}
	return best
}

// endedAtRandom are sales that have ended, with what they were made of.
func endedAtRandom(t *testing.T, seed uint64) iter.Seq2[told, *sale.Sale] {
	rnd := rand.New(rand.NewPCG(seed, 23))
	return func(yield func(told, *sale.Sale) bool) {
		for n := range 400 {
			d := toldAtRandom(rnd, n)
			if !yield(d, d.ended(t)) {
				return
			}
		}
	}
}

// P23.2: nothing is sold twice, and nobody has two picks, or pays more than it told.
func TestPicks(t *testing.T) {
	won := 0
	for d, s := range endedAtRandom(t, 2) {
		var sold uint64
		last := 0
		for _, w := range s.Picks() {
			if w.Set == 0 || w.Set&sold != 0 || w.Party <= last || w.Price < 0 || w.Price > w.Value {
				t.Errorf("%+v: picks %+v", d, s.Picks())
			}
			if !slices.Contains(d.atoms[slices.Index(d.parties, w.Party)], api.Atom{Set: w.Set, Value: w.Value}) {
				t.Errorf("%+v: nobody told %+v", d, w)
			}
			sold |= w.Set
			last = w.Party
			won++
		}
		if s.Unsold()&sold != 0 || s.Unsold()|sold != s.Items() {
			t.Errorf("%+v: sold %x, unsold %x", d, sold, s.Unsold())
		}
		picked := map[int]uint64{}
		for _, p := range s.All() {
			picked[p.Bidder] |= p.Set
		}
		if len(picked) != len(s.All()) {
			t.Errorf("%+v: all picks %v", d, s.All())
		}
	}
	if won < 200 {
		t.Errorf("%d picks alone", won)
	}
}

// kept is the reserves of what no party gets.
func kept(d told, s *sale.Sale) int64 { return worthAt(nil, d.reserves, s.Unsold()) }

// P23.3: what is got is at least the greatest worth, less eps for each bidder that has a pick.
func TestWorth(t *testing.T) {
	for d, s := range endedAtRandom(t, 3) {
		got := kept(d, s)
		for _, w := range s.Picks() {
			got += w.Value
		}
		most := worthAt(d.atoms, d.reserves, s.Items())
		if got > most || got < most-d.eps*int64(len(s.All())) {
			t.Fatalf("%+v: %d is got, of %d, with %d picks", d, got, most, len(s.All()))
		}
	}
}

// P23.4: no parties could do better among themselves and with the seller.
func TestShares(t *testing.T) {
	for d, s := range endedAtRandom(t, 4) {
		wins := s.Picks()
		base := kept(d, s) + d.eps*int64(len(s.All())-len(wins))
		for _, w := range wins {
			base += w.Price
		}
		for some := range 1 << len(d.parties) {
			share := base
			var theirs [][]api.Atom
			for i, p := range d.parties {
				if some>>i&1 == 0 {
					continue
				}
				theirs = append(theirs, d.atoms[i])
				for _, w := range wins {
					if w.Party == p {
						share += w.Value - w.Price + d.eps
					}
				}
			}
			if worth := worthAt(theirs, d.reserves, s.Items()); worth > share {
				t.Fatalf("%+v: to %b it is worth %d, its share is %d", d, some, worth, share)
			}
		}
	}
}

// P23.1: the order in which parties are registered and tell has no part in what comes of a sale.
func TestOrder(t *testing.T) {
	rnd := rand.New(rand.NewPCG(5, 23))
	for n := range 100 {
		d := toldAtRandom(rnd, n)
		other := told{reserves: d.reserves, eps: d.eps}
		for _, i := range rnd.Perm(len(d.parties)) {
			other.parties = append(other.parties, d.parties[i])
			other.atoms = append(other.atoms, d.atoms[i])
		}
		a, b := d.running(t), other.running(t)
		checkOutcomes(t, "rounds", drain(b.Run(plenty)), drain(a.Run(plenty)))
		checkWins(t, "picks", b.Picks(), a.Picks())
	}
}

// P23.1: clones go their own ways.
func TestClone(t *testing.T) {
	s := two().open(t)
	other := s.Clone()
	other.Register(50)
	other.Submit(3, nil)
	if v, _ := s.Val(3); v.Len() == 0 {
		t.Error("a clone's Submit is seen")
	}
	if _, ok := s.Val(50); ok {
		t.Error("a clone's Register is seen")
	}
	s.Register(60)
	if _, ok := other.Val(60); ok {
		t.Error("a Register is seen by the clone")
	}
	other.Close(1, plenty)
	if s.Phase() != api.Open || len(s.Book()) != 0 {
		t.Errorf("a clone's Close is seen: phase %d", s.Phase())
	}
	s = two().running(t)
	drain(s.Run(2))
	other = s.Clone()
	left := s.Left()
	rest := drain(other.Run(plenty))
	if s.Phase() != api.Running || s.Round() != 2 || s.Left() != left || s.Picks() != nil {
		t.Errorf("a clone's Run is seen: phase %d, round %d", s.Phase(), s.Round())
	}
	checkOutcomes(t, "the other one's rounds", drain(s.Run(plenty)), rest)
	other.Invoice()
	if s.Phase() != api.Ended {
		t.Errorf("a clone's Invoice is seen: phase %d", s.Phase())
	}
}

// P23.5: arguments stay, and may be written over behind the call.
func TestArguments(t *testing.T) {
	reserves, as := list(2, 0, 9, 9)[:2], atoms(3, 9, 1, 6, 9, 9, 9, 9)[:2]
	s, _ := sale.New(2, reserves)
	s.Register(7)
	s.Submit(7, as)
	if !slices.Equal(reserves[:4], list(2, 0, 9, 9)) || !slices.Equal(as[:4], atoms(3, 9, 1, 6, 9, 9, 9, 9)) {
		t.Errorf("what was handed in is %v, %v", reserves[:4], as[:4])
	}
	clear(reserves)
	clear(as)
	m := &model{phase: api.Open, reserves: list(2, 0), vals: map[int]xor.Val{7: xor.New(atoms(1, 6, 3, 9))}}
	checkSale(t, "behind what is written over", s, m)
	s.Close(1, plenty)
	clear(reserves[:4])
	m.close(1, plenty)
	checkOutcomes(t, "rounds", drain(s.Run(plenty)), m.run(plenty))
	checkSale(t, "at the end", s, m)
}

// spoil writes over a list, and its spare room.
func spoil[T any](all []T, x T) {
	all = all[:cap(all)]
	for i := range all {
		all[i] = x
	}
}

// spoilAll writes over all that a sale answers.
func spoilAll(s *sale.Sale) {
	spoil(s.Reserves(), 77)
	spoil(s.Picks(), sale.Win{Party: 77})
	spoil(s.All(), api.Pick{Bidder: 77})
	spoil(s.Plan(1, 1).Most, 77)
	book := s.Book()
	for _, es := range book {
		spoil(es, api.Entry{Set: 77, Ask: 77})
	}
	spoil(book, nil)
}

// spoilRound writes over a round that was answered.
func spoilRound(o round.Outcome) {
	spoil(o.Picks, api.Pick{Bidder: 77})
	spoil(o.Sad, 77)
	spoil(o.Out, 77)
}

// P23.5: answers are new memory, of clones too.
func TestAnswers(t *testing.T) {
	rnd := rand.New(rand.NewPCG(6, 23))
	for n := range 60 {
		d := toldAtRandom(rnd, n)
		s := d.open(t)
		other := s.Clone()
		m := &model{phase: api.Open, reserves: d.reserves, vals: map[int]xor.Val{}}
		for i, p := range d.parties {
			m.vals[p] = xor.New(d.atoms[i])
		}
		spoilAll(s)
		checkSale(t, "open", s, m)
		for _, at := range []*sale.Sale{s, other} {
			at.Close(d.eps, plenty)
		}
		m.close(d.eps, plenty)
		for m.phase == api.Running {
			next := s.Round() + 1
			if n%2 == 0 {
				o, _ := s.Step(next)
				spoilRound(o)
			} else {
				for o := range s.Run(1) {
					spoilRound(o)
				}
			}
			o, _ := other.Step(next)
			spoilRound(o)
			m.step(next)
			spoilAll(s)
			checkSale(t, "running", s, m)
			checkSale(t, "its clone", other, m)
		}
		other = s.Clone()
		ws, _ := s.Invoice()
		spoil(ws, sale.Win{Party: 77})
		spoilAll(s)
		checkSale(t, "its clone, ended", other, m)
		m.phase = api.Invoiced
		checkSale(t, "invoiced", s, m)
	}
}

// P23.1: long lists are refused at once.
func TestLong(t *testing.T) {
	soon(t, "long lists", func() {
		if s, e := sale.New(64, make([]int64, 1<<22)); s != nil || e != api.ErrArg {
			t.Errorf("New: %d", e)
		}
		s := two().open(t)
		checkErr(t, "Submit", s.Submit(3, make([]api.Atom, 1<<22)), api.ErrMany)
		if v, _ := s.Val(3); v.Len() != 2 {
			t.Errorf("behind it the valuation is %v", atomsOf(v))
		}
	})
}

// P23.1: the greatest values and eps, and as many rounds as may be.
func TestGreatest(t *testing.T) {
	d := told{list(big), []int{2, 3}, [][]api.Atom{atoms(1, big), atoms(1, big)}, big}
	s := d.ended(t)
	checkWins(t, "eps as great as all values", s.Picks(), []sale.Win{{Party: 2, Set: 1, Value: big, Price: big}})
	if n, e := d.open(t).Close(1, math.MaxInt); n != 0 || e != api.ErrBound {
		t.Errorf("3 times 2^40 rounds: %d, %d", n, e)
	}
	one := told{list(0), []int{2}, [][]api.Atom{atoms(1, big)}, 1}.open(t)
	if n, e := one.Close(1, plenty); n != big || e != api.OK || one.Left() != big {
		t.Errorf("2^40 rounds: %d, %d", n, e)
	}
	if one := (told{list(0), []int{2}, [][]api.Atom{atoms(1, big)}, 1}).open(t); one.Phase() == api.Open {
		_, e := one.Close(1, plenty-1)
		checkErr(t, "one round less", e, api.ErrBound)
	}
}
