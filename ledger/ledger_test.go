// The tests of layer 17. Above each stands the promise that it holds the program to.
package ledger_test

import (
	"bytes"
	"iter"
	"maps"
	"math"
	"math/rand/v2"
	"slices"
	"testing"
	"time"

	"saleroom/api"
	"saleroom/ledger"
)

const (
	big  int64 = 1 << 40 // the greatest amount
	most int64 = 1 << 46 // how far a balance may lie from 0
)

// balances are what a ledger is held to: those that aren't 0, by their accounts.
type balances map[int]int64

// isAccount tells whether a number is an account, as the document's words say it.
func isAccount(n int) bool { return n == 0 || n == 1 || n >= 4 && n <= 2001 }

// move lets an amount go, or tells why not.
func (m balances) move(x ledger.Move) api.Errno {
	if !isAccount(x.From) || !isAccount(x.To) || x.From == x.To || x.Amount < 0 || x.Amount > big {
		return api.ErrArg
	}
	if x.From != 0 && m[x.From] < x.Amount {
		return api.ErrFunds
	}
	if m[x.From]-x.Amount < -most || m[x.To]+x.Amount > most {
		return api.ErrLong
	}
	m[x.From] -= x.Amount
	m[x.To] += x.Amount
	maps.DeleteFunc(m, func(_ int, balance int64) bool { return balance == 0 })
	return api.OK
}

// moves lets amounts go up to the first that is refused: what is then, how many went, and the error.
func (m balances) moves(ms []ledger.Move) (balances, int, api.Errno) {
	behind := maps.Clone(m)
	for i, x := range ms {
		if e := behind.move(x); e != api.OK {
			return behind, i, e
		}
	}
	return behind, len(ms), api.OK
}

// numberOf is a whole number as bytes.
func numberOf(n uint64) []byte {
	var b []byte
	for ; n > 127; n /= 128 {
		b = append(b, byte(n%128)+128)
	}
	return append(b, byte(n))
}

// signedOf is a number with a sign as bytes.
func signedOf(n int64) []byte {
	if n < 0 {
		return numberOf(2*uint64(-(n+1)) + 1)
	}
	return numberOf(2 * uint64(n))
}

// pair is an account and a balance, or any two numbers in their places.
type pair struct {
	account uint64
	balance int64
}

// bytesOf are pairs as bytes.
func bytesOf(ps []pair) []byte {
	b := numberOf(uint64(len(ps)))
	for _, p := range ps {
		b = slices.Concat(b, numberOf(p.account), signedOf(p.balance))
	}
	return b
}

// pairs are the balances by rising account.
func (m balances) pairs() []pair {
	var ps []pair
	for _, account := range slices.Sorted(maps.Keys(m)) {
		ps = append(ps, pair{uint64(account), m[account]})
	}
	return ps
}

// readable tells whether pairs are a ledger's, added up in small pieces that never go round.
func readable(ps []pair) bool {
	var high, low int64
	for i, p := range ps {
		switch {
		case i > 0 && ps[i-1].account >= p.account, p.account > 2001, !isAccount(int(p.account)):
			return false
		case p.balance == 0, p.balance > most, p.balance < -most, p.balance < 0 && p.account != 0:
			return false
		}
		high, low = high+p.balance>>20, low+p.balance&(1<<20-1)
	}
	return high+low>>20 == 0 && low&(1<<20-1) == 0
}

// listed is all that comes, in order.
func listed(seq iter.Seq2[int, int64]) []pair {
	var ps []pair
	for account, balance := range seq {
		ps = append(ps, pair{uint64(account), balance})
	}
	return ps
}

// ledgerOf is a ledger of a row of moves, none of which may be refused.
func ledgerOf(t *testing.T, ms ...ledger.Move) *ledger.Ledger {
	t.Helper()
	var l ledger.Ledger
	for _, m := range ms {
		checkMove(t, &l, m, api.OK)
	}
	return &l
}

// checkMove: a move is answered as it should be.
func checkMove(t *testing.T, l *ledger.Ledger, m ledger.Move, want api.Errno) {
	t.Helper()
	if e := l.Move(m.From, m.To, m.Amount); e != want {
		t.Errorf("move %v: error %d, not %d", m, e, want)
	}
}

// checkLedger: a ledger has just these balances.
func checkLedger(t *testing.T, what string, l *ledger.Ledger, want balances) {
	t.Helper()
	if l == nil {
		t.Fatalf("%s: there is no ledger", what)
	}
	if got := listed(l.All()); !slices.Equal(got, want.pairs()) {
		t.Errorf("%s: %v, not %v", what, got, want.pairs())
	}
	for account := -3; account < 2010; account++ {
		if got := l.Balance(account); got != want[account] {
			t.Errorf("%s: account %d has %d, not %d", what, account, got, want[account])
		}
	}
	if got := l.Total(); got != 0 {
		t.Errorf("%s: the total is %d", what, got)
	}
}

// checkRead: bytes are refused with an error, and nothing beside it.
func checkRead(t *testing.T, b []byte, want api.Errno) {
	t.Helper()
	if l, e := ledger.Read(b); e != want || l != nil {
		t.Errorf("% x: error %d, not %d; a ledger: %v", b[:min(len(b), 40)], e, want, l != nil)
	}
}

// soon fails a test in which a call doesn't end.
func soon(t *testing.T, what string, do func()) {
	t.Helper()
	done := make(chan struct{})
	go func() {
		defer close(done)
		do()
	}()
	select {
	case <-done:
	case <-time.After(30 * time.Second):
		t.Fatalf("%s doesn't end", what)
	}
}

// full is a ledger of which the outside's balance lies as far below 0 as may be, all of it on one account.
func full(t *testing.T, account int) *ledger.Ledger {
	t.Helper()
	var l ledger.Ledger
	for range most / big {
		checkMove(t, &l, ledger.Move{From: 0, To: account, Amount: big}, api.OK)
	}
	return &l
}

// anyOf is a move at random, between few accounts, one that may be or not.
func anyOf(rnd *rand.Rand) ledger.Move {
	few := []int{0, 0, 0, 1, 4, 5, 6, 7, 2000, 2001}
	m := ledger.Move{From: few[rnd.IntN(len(few))], To: few[rnd.IntN(len(few))], Amount: rnd.Int64N(8)}
	switch rnd.IntN(24) {
	case 0:
		m.From = []int{-1, 2, 3, 2002, math.MinInt, math.MaxInt}[rnd.IntN(6)]
	case 1:
		m.To = []int{-1, 2, 3, 2002, math.MinInt, math.MaxInt}[rnd.IntN(6)]
	case 2:
		m.Amount = []int64{-1, big + 1, math.MinInt64, math.MaxInt64, big, big, big - 1}[rnd.IntN(7)]
	}
	return m
}

// P17.1: the document's example.
func TestExample(t *testing.T) {
	var l ledger.Ledger
	checkMove(t, &l, ledger.Move{From: 0, To: 4, Amount: 5}, api.OK)
	if l.Balance(0) != -5 || l.Balance(4) != 5 {
		t.Errorf("%d, %d", l.Balance(0), l.Balance(4))
	}
}

// P17.1: the accounts of parties, and of numbers that aren't one.
func TestFreeHold(t *testing.T) {
	for p, want := range map[int][2]int{
		2: {4, 5}, 3: {6, 7}, 500: {1000, 1001}, 999: {1998, 1999}, 1000: {2000, 2001},
		1: {-1, -1}, 0: {-1, -1}, -1: {-1, -1}, -2: {-1, -1}, 1001: {-1, -1}, 2000: {-1, -1}, math.MaxInt: {-1, -1}, math.MinInt: {-1, -1},
		1<<62 + 1: {-1, -1}, 1<<63 - 2: {-1, -1}, math.MinInt + 2: {-1, -1}, 1<<32 + 2: {-1, -1}, // twice as much would go round
	} {
		if ledger.Free(p) != want[0] || ledger.Hold(p) != want[1] {
			t.Errorf("party %d: %d, %d", p, ledger.Free(p), ledger.Hold(p))
		}
	}
}

// P17.1: accounts are the outside's, the seller's, and those of parties.
func TestRight(t *testing.T) {
	are := map[int]int{0: 1, 1: 1}
	for p := -2000; p < 3000; p++ {
		are[ledger.Free(p)]++
		are[ledger.Hold(p)]++
	}
	delete(are, -1)
	if len(are) != 2000 {
		t.Errorf("there are %d accounts", len(are))
	}
	for n := -5000; n < 5000; n++ {
		if got := ledger.Right(n); got != (are[n] == 1) || got != isAccount(n) {
			t.Errorf("%d is an account: %v", n, got)
		}
	}
	for _, n := range []int{math.MinInt, math.MaxInt, 1 << 32, 1<<32 + 4, -1 << 32, 1<<62 + 4, math.MinInt + 4} {
		if ledger.Right(n) {
			t.Errorf("%d is an account", n)
		}
	}
}

// P17.1: of the zero ledger all balances are 0.
func TestEmpty(t *testing.T) {
	var l, m ledger.Ledger
	checkLedger(t, "the zero one", &l, nil)
	checkLedger(t, "its clone", l.Clone(), nil)
	if !l.Same(&m) || !l.Same(&l) || !l.Same(nil) {
		t.Error("Same")
	}
	if l.Balance(math.MinInt) != 0 || l.Balance(math.MaxInt) != 0 {
		t.Error("Balance")
	}
	if l.Moves(nil) != api.OK || l.Moves([]ledger.Move{}) != api.OK || !l.Back(nil) || !l.Back([]ledger.Move{}) {
		t.Error("no moves at all")
	}
	if b := ledger.Write(&l); string(b) != "\x00" {
		t.Errorf("% x", b)
	}
	r, n, e := ledger.Replay(slices.Values([]ledger.Move{}))
	checkLedger(t, "behind no moves", r, nil)
	if n != 0 || e != api.OK {
		t.Errorf("%d moves, error %d", n, e)
	}
}

// P1 of the whole: ledgers and moves that are nil are taken as those of which there is nothing.
func TestNil(t *testing.T) {
	if b := ledger.Write(nil); string(b) != "\x00" {
		t.Errorf("% x", b)
	}
	if ledgerOf(t, ledger.Move{From: 0, To: 4, Amount: 5}).Same(nil) {
		t.Error("Same")
	}
	r, n, e := ledger.Replay(nil)
	checkLedger(t, "behind no moves", r, nil)
	if n != 0 || e != api.OK {
		t.Errorf("%d moves, error %d", n, e)
	}
	checkRead(t, nil, api.ErrShort)
}

// P17.1: moves one behind the other, by hand: what is there goes, not one more; the outside's alone may be below 0.
func TestMoveByHand(t *testing.T) {
	var l ledger.Ledger
	for i, r := range []struct {
		from, to int
		amount   int64
		want     api.Errno
	}{
		{0, 4, 10, api.OK}, {4, 5, 11, api.ErrFunds}, {4, 5, 10, api.OK}, {4, 5, 1, api.ErrFunds}, {4, 5, 0, api.OK}, {5, 4, 3, api.OK}, {5, 1, 7, api.OK}, {5, 1, 1, api.ErrFunds}, {1, 0, 8, api.ErrFunds}, {1, 0, 2, api.OK}, {1, 2001, 5, api.OK}, {2001, 2000, 5, api.OK}, {2000, 0, 6, api.ErrFunds}, {2000, 0, 4, api.OK},
		{6, 4, 1, api.ErrFunds}, {6, 4, 0, api.OK}, {0, 1, 0, api.OK}, {0, 1, big, api.OK}, {1, 4, big, api.OK}, {4, 0, big, api.OK}, {4, 0, 3, api.OK}, {4, 0, 1, api.ErrFunds}, {2000, 1, big, api.ErrFunds},
	} {
		if e := l.Move(r.from, r.to, r.amount); e != r.want {
			t.Errorf("%d: error %d, not %d", i, e, r.want)
		}
	}
	checkLedger(t, "behind all", &l, balances{0: -1, 2000: 1})
}

// P17.1, P17.3: arguments that may not be are told ahead of all else, and turn nothing.
func TestMoveOfOthers(t *testing.T) {
	l := ledgerOf(t, ledger.Move{From: 0, To: 4, Amount: 10})
	others := []int{-1, -2, -4, 2, 3, 2002, 2003, 4000, 1 << 32, 1<<32 + 4, math.MinInt, math.MaxInt}
	for _, n := range others {
		for _, amount := range []int64{0, 1, 11, big, big + 1, -1} {
			checkMove(t, l, ledger.Move{From: n, To: 4, Amount: amount}, api.ErrArg)
			checkMove(t, l, ledger.Move{From: 4, To: n, Amount: amount}, api.ErrArg)
			checkMove(t, l, ledger.Move{From: 0, To: n, Amount: amount}, api.ErrArg)
			checkMove(t, l, ledger.Move{From: n, To: n, Amount: amount}, api.ErrArg)
		}
	}
	for _, account := range []int{0, 1, 4, 5, 2001} {
		for _, amount := range []int64{0, 1, 11, big, big + 1} {
			checkMove(t, l, ledger.Move{From: account, To: account, Amount: amount}, api.ErrArg)
		}
	}
	for _, amount := range []int64{-1, -10, big + 1, most, most + 1, math.MinInt64, math.MaxInt64} {
		checkMove(t, l, ledger.Move{From: 0, To: 4, Amount: amount}, api.ErrArg)
		checkMove(t, l, ledger.Move{From: 4, To: 0, Amount: amount}, api.ErrArg)
		checkMove(t, l, ledger.Move{From: 5, To: 4, Amount: amount}, api.ErrArg)
	}
	checkLedger(t, "behind all", l, balances{0: -10, 4: 10})
}

// P17.1, P17.3: a balance is as far from 0 as may be, and no farther.
func TestMoveUpToTheBound(t *testing.T) {
	l := full(t, 4)
	checkLedger(t, "a full one", l, balances{0: -most, 4: most})
	for _, to := range []int{1, 4, 5, 2001} {
		checkMove(t, l, ledger.Move{From: 0, To: to, Amount: 1}, api.ErrLong)
		checkMove(t, l, ledger.Move{From: 0, To: to, Amount: big}, api.ErrLong)
		checkMove(t, l, ledger.Move{From: 0, To: to, Amount: 0}, api.OK)
	}
	checkMove(t, l, ledger.Move{From: 0, To: 4, Amount: big + 1}, api.ErrArg)
	checkMove(t, l, ledger.Move{From: 5, To: 4, Amount: big}, api.ErrFunds)
	checkLedger(t, "behind what is refused", l, balances{0: -most, 4: most})
	checkMove(t, l, ledger.Move{From: 4, To: 0, Amount: 3}, api.OK)
	checkMove(t, l, ledger.Move{From: 0, To: 1, Amount: 4}, api.ErrLong)
	checkMove(t, l, ledger.Move{From: 0, To: 1, Amount: 3}, api.OK)
	checkMove(t, l, ledger.Move{From: 0, To: 1, Amount: 1}, api.ErrLong)
	for range most/big - 1 {
		checkMove(t, l, ledger.Move{From: 4, To: 1, Amount: big}, api.OK)
	}
	checkMove(t, l, ledger.Move{From: 4, To: 1, Amount: big - 3}, api.OK)
	checkLedger(t, "all on another one", l, balances{0: -most, 1: most})
	if got, e := ledger.Read(ledger.Write(l)); e != api.OK || !got.Same(l) {
		t.Errorf("error %d", e)
	}
}

// P17.1, P17.2, P17.3: every order of calls.
func TestCallsAtRandom(t *testing.T) {
	rnd := rand.New(rand.NewPCG(1, 17))
	refused := map[api.Errno]int{}
	for range 150 {
		var l ledger.Ledger
		m := balances{}
		for range rnd.IntN(60) {
			ms := make([]ledger.Move, rnd.IntN(4))
			for i := range ms {
				ms[i] = anyOf(rnd)
			}
			behind, _, want := m.moves(ms)
			switch {
			case rnd.IntN(3) == 0:
				if e := l.Moves(ms); e != want {
					t.Fatalf("%v: error %d, not %d", ms, e, want)
				}
				if want == api.OK {
					m = behind
				}
			case rnd.IntN(2) == 0:
				behind, _, e := m.moves(backOf(ms))
				if got := l.Back(ms); got != (e == api.OK) {
					t.Fatalf("%v is taken back: %v", ms, got)
				}
				if e == api.OK {
					m = behind
				}
			default:
				for _, x := range ms {
					want := m.move(x)
					checkMove(t, &l, x, want)
					refused[want]++
				}
			}
		}
		checkLedger(t, "behind all", &l, m)
		if got, e := ledger.Read(ledger.Write(&l)); e != api.OK || !got.Same(&l) {
			t.Errorf("error %d", e)
		}
	}
	if refused[api.OK] < 500 || refused[api.ErrArg] < 100 || refused[api.ErrFunds] < 500 {
		t.Errorf("so many were refused: %v", refused)
	}
}

// backOf are the moves the other way, the last one first.
func backOf(ms []ledger.Move) []ledger.Move {
	var back []ledger.Move
	for i := len(ms) - 1; i >= 0; i-- {
		back = append(back, ledger.Move{From: ms[i].To, To: ms[i].From, Amount: ms[i].Amount})
	}
	return back
}

// P17.1: as many balances as there may be, by rising account, as long as more is asked for, as often as one likes.
func TestAll(t *testing.T) {
	rnd := rand.New(rand.NewPCG(2, 17))
	var l ledger.Ledger
	m := balances{}
	for _, i := range rnd.Perm(1998) {
		x := ledger.Move{From: 0, To: 4 + i, Amount: 1 + rnd.Int64N(9)}
		checkMove(t, &l, x, m.move(x))
	}
	checkMove(t, &l, ledger.Move{From: 4, To: 1, Amount: 1}, m.move(ledger.Move{From: 4, To: 1, Amount: 1}))
	checkLedger(t, "of all accounts", &l, m)
	seq := l.All()
	for range 2 {
		if got := listed(seq); !slices.Equal(got, m.pairs()) {
			t.Errorf("once more: %d balances", len(got))
		}
	}
	for n := range 5 {
		var got []pair
		for account, balance := range seq {
			got = append(got, pair{uint64(account), balance})
			if len(got) > n {
				break
			}
		}
		if !slices.Equal(got, m.pairs()[:n+1]) {
			t.Errorf("the first %d: %v", n+1, got)
		}
	}
}

// P17.1: what is moved while balances are told isn't seen by what goes on, but by what begins behind it.
func TestAllWhileMoved(t *testing.T) {
	l := ledgerOf(t, ledger.Move{From: 0, To: 4, Amount: 5}, ledger.Move{From: 0, To: 6, Amount: 7})
	seq := l.All()
	var got []pair
	for account, balance := range seq {
		got = append(got, pair{uint64(account), balance})
		l.Move(6, 8, 7)
		l.Moves([]ledger.Move{{From: 4, To: 0, Amount: 1}})
	}
	if want := []pair{{0, -12}, {4, 5}, {6, 7}}; !slices.Equal(got, want) {
		t.Errorf("%v, not %v", got, want)
	}
	if got, want := listed(seq), []pair{{0, -9}, {4, 2}, {8, 7}}; !slices.Equal(got, want) {
		t.Errorf("behind it: %v", got)
	}
}

// P17.1: a clone has the same, and both go their own ways; so does what was copied as a value.
func TestClone(t *testing.T) {
	l := ledgerOf(t, ledger.Move{From: 0, To: 4, Amount: 5})
	c, d := l.Clone(), *l
	checkLedger(t, "a clone", c, balances{0: -5, 4: 5})
	checkMove(t, c, ledger.Move{From: 4, To: 1, Amount: 5}, api.OK)
	checkMove(t, l, ledger.Move{From: 0, To: 4, Amount: 1}, api.OK)
	checkMove(t, &d, ledger.Move{From: 4, To: 0, Amount: 5}, api.OK)
	checkLedger(t, "the clone", c, balances{0: -5, 1: 5})
	checkLedger(t, "the first one", l, balances{0: -6, 4: 6})
	checkLedger(t, "the copy", &d, nil)
}

// P17.1: whether both have the same balances, whatever led there.
func TestSame(t *testing.T) {
	five := ledger.Move{From: 0, To: 4, Amount: 5}
	ls := []*ledger.Ledger{
		ledgerOf(t), ledgerOf(t, five), ledgerOf(t, ledger.Move{From: 0, To: 4, Amount: 6}), ledgerOf(t, ledger.Move{From: 0, To: 5, Amount: 5}), ledgerOf(t, ledger.Move{From: 0, To: 1, Amount: 5}),
		ledgerOf(t, five, ledger.Move{From: 4, To: 5, Amount: 2}), ledgerOf(t, five, ledger.Move{From: 4, To: 5, Amount: 3}), ledgerOf(t, five, ledger.Move{From: 0, To: 5, Amount: 5}), ledgerOf(t, five, ledger.Move{From: 4, To: 6, Amount: 2}),
	}
	for i, a := range ls {
		for j, b := range ls {
			if got := a.Same(b); got != (i == j) {
				t.Errorf("%d and %d are the same: %v", i, j, got)
			}
		}
		if !a.Same(a.Clone()) || !a.Clone().Same(a) {
			t.Errorf("%d and its clone", i)
		}
	}
	round := ledgerOf(t, five, ledger.Move{From: 4, To: 1, Amount: 5}, ledger.Move{From: 0, To: 6, Amount: 2}, ledger.Move{From: 1, To: 4, Amount: 5}, ledger.Move{From: 6, To: 0, Amount: 2})
	if !round.Same(ls[1]) || !ls[1].Same(round) || !bytes.Equal(ledger.Write(round), ledger.Write(ls[1])) {
		t.Error("what led there is seen")
	}
	checkMove(t, round, ledger.Move{From: 4, To: 0, Amount: 5}, api.OK)
	if !round.Same(ls[0]) || !ls[0].Same(round) || round.Same(ls[1]) {
		t.Error("what led to nothing is seen")
	}
}

// P17.1, P17.3: all moves or none; the first one's error that there is.
func TestMoves(t *testing.T) {
	for i, r := range []struct {
		ms   []ledger.Move
		want api.Errno
		then balances
	}{
		{[]ledger.Move{{From: 4, To: 5, Amount: 10}, {From: 5, To: 1, Amount: 10}}, api.OK, balances{0: -10, 1: 10}},
		{[]ledger.Move{{From: 4, To: 5, Amount: 4}, {From: 4, To: 5, Amount: 4}}, api.OK, balances{0: -10, 4: 2, 5: 8}},
		{[]ledger.Move{{From: 4, To: 0, Amount: 10}}, api.OK, nil},
		{[]ledger.Move{{From: 4, To: 5, Amount: 6}, {From: 4, To: 5, Amount: 5}}, api.ErrFunds, nil},
		{[]ledger.Move{{From: 5, To: 1, Amount: 10}, {From: 4, To: 5, Amount: 10}}, api.ErrFunds, nil}, // another order
		{[]ledger.Move{{From: 4, To: 5, Amount: 6}, {From: 4, To: 4, Amount: 1}, {From: 4, To: 5, Amount: 5}}, api.ErrArg, nil},
		{[]ledger.Move{{From: 4, To: 5, Amount: 6}, {From: 4, To: 5, Amount: 5}, {From: 4, To: 4, Amount: 1}}, api.ErrFunds, nil},
		{append(slices.Repeat([]ledger.Move{{From: 0, To: 4, Amount: big}}, 64), ledger.Move{}), api.ErrLong, nil},
		{append(slices.Repeat([]ledger.Move{{From: 0, To: 4, Amount: big}}, 63), ledger.Move{}), api.ErrArg, nil},
		{append(slices.Repeat([]ledger.Move{{From: 0, To: 5, Amount: big}}, 63), ledger.Move{From: 0, To: 5, Amount: big - 10}), api.OK, balances{0: -most, 4: 10, 5: most - 10}},
		{[]ledger.Move{{From: 4, To: 5, Amount: 1}, {}}, api.ErrArg, nil},
	} {
		l := ledgerOf(t, ledger.Move{From: 0, To: 4, Amount: 10})
		if e := l.Moves(r.ms); e != r.want {
			t.Errorf("%d: error %d, not %d", i, e, r.want)
		}
		if r.want != api.OK {
			r.then = balances{0: -10, 4: 10}
		}
		checkLedger(t, "behind moves", l, r.then)
	}
}

// P17.1, P17.3: moves are taken back, the last one first, all of them or none.
func TestBack(t *testing.T) {
	three := []ledger.Move{{From: 0, To: 4, Amount: 10}, {From: 4, To: 5, Amount: 10}, {From: 5, To: 1, Amount: 10}}
	l := ledgerOf(t, three...)
	if !l.Back(three) {
		t.Error("moves that went")
	}
	checkLedger(t, "behind it", l, nil)
	for i, r := range []struct {
		ms   []ledger.Move
		want bool
		then balances
	}{
		{three, true, nil}, {three[2:], true, balances{0: -10, 5: 10}}, {three[1:], true, balances{0: -10, 4: 10}}, {three[:2], false, nil}, {three[:1], false, nil},
		{[]ledger.Move{three[2], three[1], three[0]}, false, nil}, {[]ledger.Move{three[2], three[2]}, false, nil},
		{[]ledger.Move{{From: 5, To: 1, Amount: 11}}, false, nil}, {[]ledger.Move{{From: 5, To: 1, Amount: 4}, {From: 6, To: 1, Amount: 6}}, true, balances{0: -10, 5: 4, 6: 6}}, // whether they went isn't asked
		{[]ledger.Move{{From: 1, To: 1}, three[2]}, false, nil}, {[]ledger.Move{three[2], {From: 1, To: 1}}, false, nil}, {[]ledger.Move{{From: 2, To: 1, Amount: 1}}, false, nil}, {[]ledger.Move{{From: 5, To: 1, Amount: -1}}, false, nil}, {[]ledger.Move{{From: 5, To: 1, Amount: big + 1}}, false, nil},
		{[]ledger.Move{{From: 4, To: 0, Amount: 5}}, true, balances{0: -15, 1: 10, 4: 5}}, {slices.Repeat([]ledger.Move{{From: 4, To: 0, Amount: big}}, 64), false, nil}, {[]ledger.Move{{From: 5, To: 4}}, true, balances{0: -10, 1: 10}},
	} {
		l := ledgerOf(t, three...)
		if got := l.Back(r.ms); got != r.want {
			t.Errorf("%d: %v", i, got)
		}
		if !r.want {
			r.then = balances{0: -10, 1: 10}
		}
		checkLedger(t, "behind it", l, r.then)
	}
}

// P17.1: a ledger behind moves, up to the first that is refused; no more is asked for then.
func TestReplay(t *testing.T) {
	rnd := rand.New(rand.NewPCG(3, 17))
	wants := map[api.Errno]int{}
	for range 3000 {
		ms := make([]ledger.Move, rnd.IntN(12))
		for i := range ms {
			ms[i] = anyOf(rnd)
			if rnd.IntN(2) == 0 {
				ms[i].From = 0
			}
		}
		behind, went, want := balances{}.moves(ms)
		asked := 0
		l, n, e := ledger.Replay(func(yield func(ledger.Move) bool) {
			for _, m := range ms {
				asked++
				if !yield(m) {
					return
				}
			}
		})
		if n != went || e != want || asked != min(went+1, len(ms)) {
			t.Fatalf("%v: %d went, %d were asked for, error %d; not %d, error %d", ms, n, asked, e, went, want)
		}
		if l == nil || !slices.Equal(listed(l.All()), behind.pairs()) {
			t.Fatalf("%v: another ledger", ms)
		}
		wants[want]++
	}
	if wants[api.OK] < 100 || wants[api.ErrArg] < 100 || wants[api.ErrFunds] < 100 {
		t.Errorf("so many ended: %v", wants)
	}
}

// P17.1: moves that never end are asked for up to the bound of what a balance may be.
func TestReplayWithoutEnd(t *testing.T) {
	soon(t, "a replay of moves without end", func() {
		l, n, e := ledger.Replay(func(yield func(ledger.Move) bool) {
			for yield(ledger.Move{From: 0, To: 4, Amount: big}) {
			}
		})
		if n != 64 || e != api.ErrLong {
			t.Errorf("%d went, error %d", n, e)
		}
		checkLedger(t, "behind it", l, balances{0: -most, 4: most})
	})
}

// P17.1, P17.4: ledgers as bytes, and bytes that are none, by hand: layer 5's errors come first.
func TestWriteReadByHand(t *testing.T) {
	for text, want := range map[string]balances{
		"\x00": nil, "\x02\x00\x09\x04\x0A": {0: -5, 4: 5}, "\x02\x00\x01\x01\x02": {0: -1, 1: 1}, "\x03\x00\x0F\x05\x0A\xD1\x0F\x06": {0: -8, 5: 5, 2001: 3},
		"\x02\x00\xFF\xFF\xFF\xFF\xFF\xFF\x1F\x04\x80\x80\x80\x80\x80\x80\x20": {0: -most, 4: most},
	} {
		l, e := ledger.Read([]byte(text))
		if e != api.OK {
			t.Fatalf("% x: error %d", text, e)
		}
		checkLedger(t, "Read", l, want)
		if b := ledger.Write(l); string(b) != text {
			t.Errorf("written as % x, not % x", b, text)
		}
	}
	for text, want := range map[string]api.Errno{
		"": api.ErrShort, "\x01": api.ErrShort, "\x02\x00\x09\x04": api.ErrShort, "\x02\x00\x09": api.ErrShort, "\x80": api.ErrShort, "\x02\x00\x09\x04\x8A": api.ErrShort, "\xD2\x0F": api.ErrShort,
		"\xD3\x0F": api.ErrMany, "\xD3\x0F\x00\x09": api.ErrMany, "\xFF\xFF\xFF\xFF\xFF\xFF\xFF\xFF\xFF\x01": api.ErrMany,
		"\x80\x00": api.ErrForm, "\x02\x80\x00\x09\x04\x0A": api.ErrForm, "\x02\x00\x89\x00\x04\x0A": api.ErrForm, "\x02\x00\x09\xFF\xFF\xFF\xFF\xFF\xFF\xFF\xFF\xFF\x02\x0A": api.ErrForm, // no whole number
		"\x00\x00": api.ErrForm, "\x02\x00\x09\x04\x0A\x00": api.ErrForm, // some are left
		"\x02\x04\x0A\x00\x09": api.ErrForm, "\x03\x00\x09\x04\x04\x04\x06": api.ErrForm, "\x03\x00\x09\x05\x04\x04\x06": api.ErrForm, "\x02\x00\x09\x00\x0A": api.ErrForm, // accounts don't rise
		"\x02\x00\x09\x02\x0A": api.ErrForm, "\x02\x00\x09\x03\x0A": api.ErrForm, "\x02\x00\x09\xD2\x0F\x0A": api.ErrForm, "\x02\x00\x09\xFF\xFF\xFF\xFF\xFF\xFF\xFF\xFF\xFF\x01\x0A": api.ErrForm, "\x02\x00\x09\x84\x80\x80\x80\x10\x0A": api.ErrForm, "\x02\x00\x09\x84\x80\x80\x80\x80\x80\x80\x80\x80\x01\x0A": api.ErrForm, // no account
		"\x01\x00\x00": api.ErrForm, "\x01\x04\x00": api.ErrForm, "\x03\x00\x09\x04\x0A\x05\x00": api.ErrForm, // a balance is 0
		"\x03\x00\x09\x04\x0B\x05\x16": api.ErrForm, "\x03\x00\x09\x01\x01\x04\x0C": api.ErrForm, "\x02\x04\x09\x05\x0A": api.ErrForm, // below 0
		"\x01\x00\x09": api.ErrForm, "\x01\x04\x0A": api.ErrForm, "\x02\x00\x09\x04\x08": api.ErrForm, "\x02\x00\x09\x04\x0C": api.ErrForm, "\x02\x00\x0A\x04\x0A": api.ErrForm, "\x01\x00\x0A": api.ErrForm, // another total
		"\x02\x00\x00\x04": api.ErrShort, "\x02\x02\x09\x04": api.ErrShort, "\x03\x04\x0A\x00\x09": api.ErrShort, // not a ledger's, but short first
	} {
		checkRead(t, []byte(text), want)
	}
}

// P17.1: balances that are too great, each or all added up, however many they are.
func TestReadOfGreatBalances(t *testing.T) {
	checkRead(t, bytesOf([]pair{{0, -most - 1}, {4, most}, {5, 1}}), api.ErrForm)
	checkRead(t, bytesOf([]pair{{0, -most - 1}, {4, most + 1}}), api.ErrForm)
	checkRead(t, bytesOf([]pair{{0, -most}, {4, most + 1}}), api.ErrForm)
	checkRead(t, bytesOf([]pair{{0, math.MinInt64}, {4, math.MaxInt64}, {5, 1}}), api.ErrForm)
	checkRead(t, bytesOf([]pair{{4, math.MaxInt64}, {5, math.MaxInt64}, {6, 2}}), api.ErrForm)
	all := []pair{{0, -most}, {1, most}}
	for account := uint64(4); account <= 2001; account++ {
		all = append(all, pair{account, most})
	}
	for _, n := range []int{2, 3, 4, 5, 6, 8, 9, 127, 128, 129, 512, 1024, 1999} {
		checkRead(t, bytesOf(all[:n+1]), api.ErrForm)
		checkRead(t, bytesOf(all[1:n+1]), api.ErrForm)
	}
}

// P17.1, P17.4: of as many balances as may be, and of more; that they are too many is told first.
func TestReadOfMany(t *testing.T) {
	m := balances{0: -1999, 1: 1}
	for account := 4; account <= 2001; account++ {
		m[account] = 1
	}
	b := bytesOf(m.pairs())
	l, e := ledger.Read(b)
	if e != api.OK || !bytes.Equal(ledger.Write(l), b) {
		t.Fatalf("error %d", e)
	}
	checkLedger(t, "of all accounts", l, m)
	checkRead(t, b[:len(b)-1], api.ErrShort)
	checkRead(t, append(b, 0), api.ErrForm)
	for n, want := range map[int]api.Errno{2001: api.ErrForm, 2002: api.ErrForm, 2003: api.ErrMany, 4000: api.ErrMany} {
		ps := m.pairs()
		for len(ps) < n {
			ps = append(ps, pair{uint64(len(ps) + 2), 1})
		}
		checkRead(t, bytesOf(ps), want)
		if want == api.ErrMany {
			checkRead(t, bytesOf(ps)[:9], want)
		}
	}
}

// P17.4: what is written is read as it, up to its last byte.
func TestWrittenIsRead(t *testing.T) {
	rnd := rand.New(rand.NewPCG(4, 17))
	for range 300 {
		var l ledger.Ledger
		m := balances{}
		for range rnd.IntN(40) {
			x := ledger.Move{From: 0, To: 1 + rnd.IntN(2001), Amount: rnd.Int64() >> (23 + rnd.IntN(41))}
			if rnd.IntN(3) == 0 {
				x.From, x.To = x.To, rnd.IntN(12)
			}
			checkMove(t, &l, x, m.move(x))
		}
		b := ledger.Write(&l)
		if !bytes.Equal(b, bytesOf(m.pairs())) {
			t.Errorf("%v is written as % x", m, b)
		}
		got, e := ledger.Read(b)
		if e != api.OK || !got.Same(&l) {
			t.Fatalf("error %d", e)
		}
		checkLedger(t, "Read", got, m)
		for n := range b {
			checkRead(t, b[:n], api.ErrShort)
		}
		checkRead(t, append(slices.Clone(b), 0), api.ErrForm)
	}
}

// P17.1, P17.2: lists of pairs of any kind are read if they are a ledger's, all others not.
func TestReadAtRandom(t *testing.T) {
	rnd := rand.New(rand.NewPCG(5, 17))
	read := 0
	for range 60000 {
		ps := make([]pair, rnd.IntN(4))
		for i := range ps {
			ps[i] = pair{uint64(rnd.IntN(7)), rnd.Int64N(4)}
			if i == 0 && rnd.IntN(3) > 0 {
				ps[i] = pair{0, -rnd.Int64N(7)}
			}
			switch rnd.IntN(40) {
			case 0:
				ps[i].account = []uint64{2000, 2001, 2002, 1 << 32, 1<<32 + 4, 1<<63 + 4, math.MaxUint64}[rnd.IntN(7)]
			case 1:
				ps[i].balance = []int64{most, most + 1, -most, -most - 1, math.MaxInt64, math.MinInt64, -1}[rnd.IntN(7)]
			}
		}
		b := bytesOf(ps)
		l, e := ledger.Read(b)
		if !readable(ps) {
			if e != api.ErrForm || l != nil {
				t.Fatalf("%v: error %d", ps, e)
			}
			continue
		}
		read++
		if e != api.OK || !slices.Equal(listed(l.All()), ps) || !bytes.Equal(ledger.Write(l), b) {
			t.Fatalf("%v: error %d", ps, e)
		}
	}
	if read < 1000 {
		t.Errorf("only %d were read", read)
	}
}

// P17.4: whatever bytes are read are written as the same bytes; all others are an error.
func TestReadIsWritten(t *testing.T) {
	rnd := rand.New(rand.NewPCG(6, 17))
	read := 0
	for range 200000 {
		b := []byte{byte(rnd.IntN(4))}
		for i := range 2*int(b[0]) + rnd.IntN(6)/5 {
			b = append(b, byte(rnd.IntN(8)))
			if i == 0 {
				b[len(b)-1] /= 4
			}
			if rnd.IntN(20) == 0 {
				b[len(b)-1] += 128
			}
		}
		l, e := ledger.Read(b)
		if e != api.OK {
			if l != nil || e != api.ErrForm && e != api.ErrShort {
				t.Fatalf("% x: error %d", b, e)
			}
			continue
		}
		if b[0] > 0 {
			read++
		}
		if !bytes.Equal(ledger.Write(l), b) || l.Total() != 0 {
			t.Fatalf("% x is written as % x", b, ledger.Write(l))
		}
	}
	if read < 300 {
		t.Errorf("only %d were read", read)
	}
}

// overwrite writes over a list, the memory behind its length too.
func overwrite[T any](all []T, with T) {
	all = all[:cap(all)]
	for i := range all {
		all[i] = with
	}
}

// The rules that hold everywhere: what is handed in stays, the memory behind its length too, and may be written over behind the call.
func TestArguments(t *testing.T) {
	room := []ledger.Move{{From: 0, To: 4, Amount: 5}, {From: 4, To: 5, Amount: 2}, {From: 4, To: 5, Amount: 7}, {From: 9, To: 9, Amount: -9}}
	kept := slices.Clone(room)
	var l ledger.Ledger
	for n := range room {
		l.Moves(room[:n])
		l.Back(room[:n])
	}
	if !slices.Equal(room, kept) {
		t.Errorf("%v became %v", kept, room)
	}
	checkLedger(t, "behind all", &l, nil)
	l.Moves(room[:2])
	overwrite(room, ledger.Move{From: 0, To: 1, Amount: 1})
	checkLedger(t, "behind it", &l, balances{0: -5, 4: 3, 5: 2})
	b := append(ledger.Write(&l), 9, 9)
	was := slices.Clone(b)
	m, e := ledger.Read(b[:len(b)-2])
	if e != api.OK || !bytes.Equal(b, was) {
		t.Errorf("error %d, % x", e, b)
	}
	overwrite(b, 1)
	checkLedger(t, "behind it", m, balances{0: -5, 4: 3, 5: 2})
	ledger.Write(m)
	l.Same(m)
	checkLedger(t, "behind Write and Same", m, balances{0: -5, 4: 3, 5: 2})
}

// The rules that hold everywhere: bytes are new ones each time, spare room too.
func TestBytesAreNew(t *testing.T) {
	l := ledgerOf(t, ledger.Move{From: 0, To: 4, Amount: 5})
	one, other := ledger.Write(l), ledger.Write(l)
	overwrite(one, 1)
	if string(other) != "\x02\x00\x09\x04\x0A" {
		t.Errorf("another answer became % x", other)
	}
	checkLedger(t, "behind it", l, balances{0: -5, 4: 5})
}

// P1 of the whole: long rows of moves, and long bytes, end.
func TestLongRows(t *testing.T) {
	soon(t, "a call of a long row", func() {
		there, back := ledger.Move{From: 0, To: 4, Amount: big}, ledger.Move{From: 4, To: 0, Amount: big}
		ms := slices.Repeat([]ledger.Move{there, back}, 300000)
		var l ledger.Ledger
		if e := l.Moves(ms); e != api.OK || !l.Back(ms) {
			t.Errorf("error %d", e)
		}
		if e := l.Moves(append(ms, ledger.Move{})); e != api.ErrArg {
			t.Errorf("error %d", e)
		}
		checkLedger(t, "behind all", &l, nil)
		checkRead(t, make([]byte, 1<<24), api.ErrForm)
		checkRead(t, bytes.Repeat([]byte{255}, 1<<24), api.ErrShort)
	})
}

// P2 of the whole: the same calls are answered the same.
func TestAnswersHangOnCalls(t *testing.T) {
	told := func() []byte {
		rnd := rand.New(rand.NewPCG(7, 17))
		var l ledger.Ledger
		var got []byte
		for range 300 {
			m := anyOf(rnd)
			got = append(got, byte(l.Move(m.From, m.To, m.Amount)))
			got = append(got, ledger.Write(&l)...)
		}
		return got
	}
	first := told()
	for range 3 {
		if !bytes.Equal(told(), first) {
			t.Error("the same calls are answered otherwise")
		}
	}
}
