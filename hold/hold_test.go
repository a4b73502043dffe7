// The tests of layer 18. Above each stands the promise that it holds the program to.
package hold_test

import (
	"bytes"
	"math"
	"math/rand/v2"
	"slices"
	"testing"
	"time"

	"saleroom/api"
	"saleroom/hold"
	"saleroom/ledger"
)

const (
	big  int64 = 1 << 40 // the greatest amount
	most int64 = 1 << 46 // how much there can be in all
)

// share is what one party has.
type share struct{ free, held int64 }

// money is what a purse is held to: what each party has, and the seller.
type money struct {
	of   map[int]share
	sold int64
}

func isParty(n int) bool { return n >= 2 && n <= 1000 }

func isAmount(n int64) bool { return n >= 0 && n <= big }

// worth is what all have.
func (m money) worth() int64 {
	total := m.sold
	for _, s := range m.of {
		total += s.free + s.held
	}
	return total
}

// put keeps what one party has.
func (m money) put(party int, free, held int64) {
	m.of[party] = share{free, held}
	if free == 0 && held == 0 {
		delete(m.of, party)
	}
}

func (m money) deposit(party int, amount int64) api.Errno {
	if !isParty(party) || !isAmount(amount) {
		return api.ErrArg
	}
	if m.worth()+amount > most {
		return api.ErrLong
	}
	m.put(party, m.of[party].free+amount, m.of[party].held)
	return api.OK
}

func (m money) withdraw(party int, amount int64) api.Errno {
	if !isParty(party) || !isAmount(amount) {
		return api.ErrArg
	}
	if m.of[party].free < amount {
		return api.ErrFunds
	}
	m.put(party, m.of[party].free-amount, m.of[party].held)
	return api.OK
}

func (m money) set(party int, amount int64) api.Errno {
	if !isParty(party) || !isAmount(amount) {
		return api.ErrArg
	}
	has := m.of[party]
	if amount > has.free+has.held {
		return api.ErrFunds
	}
	m.put(party, has.free+has.held-amount, amount)
	return api.OK
}

func (m *money) pay(party int, amount int64) api.Errno {
	if !isParty(party) || !isAmount(amount) {
		return api.ErrArg
	}
	if m.of[party].held < amount {
		return api.ErrFunds
	}
	m.put(party, m.of[party].free, m.of[party].held-amount)
	m.sold += amount
	return api.OK
}

func (m money) refund(party int) (int64, api.Errno) {
	if !isParty(party) {
		return 0, api.ErrArg
	}
	has := m.of[party]
	m.put(party, has.free+has.held, 0)
	return has.held, api.OK
}

// settle pays bills, one after the other, up to the first that is refused.
func (m *money) settle(bills []hold.Bill) api.Errno {
	for _, b := range bills {
		if e := m.pay(b.Party, b.Amount); e != api.OK {
			return e
		}
	}
	return api.OK
}

// clone is another one of the same.
func (m money) clone() *money {
	c := &money{map[int]share{}, m.sold}
	for party, s := range m.of {
		c.of[party] = s
	}
	return c
}

// sold is what a purse is held to of which the seller has so much, and parties what is told as party, free and held in turn.
func sold(much int64, numbers ...int64) money {
	m := money{map[int]share{}, much}
	for i := 0; i < len(numbers); i += 3 {
		m.put(int(numbers[i]), numbers[i+1], numbers[i+2])
	}
	return m
}

// purseOf is a purse that has just that.
func purseOf(t *testing.T, m money) *hold.Purse {
	t.Helper()
	var p hold.Purse
	check(t, "Deposit", p.Deposit(2, m.sold), api.OK)
	check(t, "Set", p.Set(2, m.sold), api.OK)
	check(t, "Pay", p.Pay(2, m.sold), api.OK)
	for party, s := range m.of {
		check(t, "Deposit", p.Deposit(party, s.free), api.OK)
		check(t, "Deposit", p.Deposit(party, s.held), api.OK)
		check(t, "Set", p.Set(party, s.held), api.OK)
	}
	return &p
}

// check: a call is answered as it should be.
func check(t *testing.T, what string, got, want api.Errno) {
	t.Helper()
	if got != want {
		t.Errorf("%s: error %d, not %d", what, got, want)
	}
}

// checkPurse: a purse has just that, by itself and as a ledger.
func checkPurse(t *testing.T, what string, p *hold.Purse, want money) {
	t.Helper()
	if p == nil {
		t.Fatalf("%s: there is no purse", what)
	}
	l := p.Ledger()
	for party := -2; party < 1010; party++ {
		if p.Has(party) != want.of[party].free || p.Held(party) != want.of[party].held {
			t.Errorf("%s: party %d has %d free, %d held, not %v", what, party, p.Has(party), p.Held(party), want.of[party])
		}
		if isParty(party) && (l.Balance(2*party) != p.Has(party) || l.Balance(2*party+1) != p.Held(party)) {
			t.Errorf("%s: party %d has %d, %d on the ledger", what, party, l.Balance(2*party), l.Balance(2*party+1))
		}
	}
	if p.Sold() != want.sold || l.Balance(1) != want.sold {
		t.Errorf("%s: the seller has %d, %d on the ledger, not %d", what, p.Sold(), l.Balance(1), want.sold)
	}
	if p.Worth() != want.worth() || l.Balance(0) != -want.worth() || l.Total() != 0 {
		t.Errorf("%s: all have %d, the outside %d, not %d", what, p.Worth(), l.Balance(0), want.worth())
	}
}

// soon fails a test in which a call doesn't end.
func soon(t *testing.T, what string, do func()) {
	t.Helper()
	done := make(chan struct{})
	go func() {
		defer close(done)
		do()
	}()
	select {
	case <-done:
	case <-time.After(30 * time.Second):
		t.Fatalf("%s doesn't end", what)
	}
}

// rich is a ledger on which one account has as much as there can be in all, more than a move can take.
func rich(t *testing.T, account int) *ledger.Ledger {
	t.Helper()
	var l ledger.Ledger
	for range most / big {
		check(t, "Move", l.Move(0, account, big), api.OK)
	}
	return &l
}

// others are numbers that aren't parties.
func others() []int {
	return []int{1, 0, -1, -2, 1001, 1002, 2000, math.MinInt, math.MaxInt, 1<<62 + 1, 1<<32 + 2}
}

// P18.1: the document's example.
func TestExample(t *testing.T) {
	var p hold.Purse
	check(t, "Deposit", p.Deposit(2, 10), api.OK)
	check(t, "Set", p.Set(2, 6), api.OK)
	checkPurse(t, "behind Set", &p, sold(0, 2, 4, 6))
	check(t, "Pay", p.Pay(2, 5), api.OK)
	if n, e := p.Refund(2); n != 1 || e != api.OK {
		t.Errorf("Refund: %d, error %d", n, e)
	}
	checkPurse(t, "behind Refund", &p, sold(5, 2, 5, 0))
}

// P18.1: of the zero purse, and of one of no ledger, all balances are 0.
func TestEmpty(t *testing.T) {
	var l ledger.Ledger
	for i, p := range []*hold.Purse{{}, hold.Of(&l), hold.Of(nil), hold.Of(new(hold.Purse).Ledger())} {
		checkPurse(t, "an empty one", p, sold(0))
		check(t, "Settle", p.Settle(nil), api.OK)
		check(t, "Settle", p.Settle([]hold.Bill{}), api.OK)
		check(t, "Set", p.Set(2, 0), api.OK)
		check(t, "Set", p.Set(2, 1), api.ErrFunds)
		if n, e := p.Refund(2); n != 0 || e != api.OK {
			t.Errorf("%d: Refund: %d, error %d", i, n, e)
		}
		checkPurse(t, "still an empty one", p, sold(0))
		check(t, "Deposit", p.Deposit(1000, 3), api.OK)
		checkPurse(t, "not an empty one", p, sold(0, 1000, 3, 0))
	}
	checkPurse(t, "behind a purse of it", hold.Of(&l), sold(0))
}

// P18.1, P18.4: numbers that aren't parties, and amounts that aren't any, are told ahead of all else, and turn nothing.
func TestOthers(t *testing.T) {
	want := sold(1, 2, 4, 6, 1000, 3, 0)
	p := purseOf(t, want)
	for _, n := range others() {
		for _, amount := range []int64{0, 1, 4, 100, big, -1, big + 1} {
			check(t, "Deposit", p.Deposit(n, amount), api.ErrArg)
			check(t, "Withdraw", p.Withdraw(n, amount), api.ErrArg)
			check(t, "Set", p.Set(n, amount), api.ErrArg)
			check(t, "Pay", p.Pay(n, amount), api.ErrArg)
			check(t, "Settle", p.Settle([]hold.Bill{{Party: n, Amount: amount}}), api.ErrArg)
		}
		if much, e := p.Refund(n); much != 0 || e != api.ErrArg {
			t.Errorf("Refund of %d: %d, error %d", n, much, e)
		}
		if p.Has(n) != 0 || p.Held(n) != 0 {
			t.Errorf("%d has something", n)
		}
	}
	for _, amount := range []int64{-1, -6, big + 1, most, most + 1, math.MinInt64, math.MaxInt64} {
		check(t, "Deposit", p.Deposit(2, amount), api.ErrArg)
		check(t, "Withdraw", p.Withdraw(2, amount), api.ErrArg)
		check(t, "Set", p.Set(2, amount), api.ErrArg)
		check(t, "Pay", p.Pay(2, amount), api.ErrArg)
		check(t, "Settle", p.Settle([]hold.Bill{{Party: 2, Amount: amount}}), api.ErrArg)
	}
	checkPurse(t, "behind all", p, want)
}

// P18.1, P18.2, P18.4: what is free is withdrawn, and what is held never.
func TestWithdraw(t *testing.T) {
	p := purseOf(t, sold(5, 2, 4, 6, 3, 9, 0))
	check(t, "Withdraw", p.Withdraw(2, 5), api.ErrFunds)
	check(t, "Withdraw", p.Withdraw(4, 1), api.ErrFunds)
	check(t, "Withdraw", p.Withdraw(4, 0), api.OK)
	checkPurse(t, "behind what is refused", p, sold(5, 2, 4, 6, 3, 9, 0))
	check(t, "Withdraw", p.Withdraw(2, 4), api.OK)
	check(t, "Withdraw", p.Withdraw(2, 1), api.ErrFunds)
	check(t, "Withdraw", p.Withdraw(3, 2), api.OK)
	checkPurse(t, "behind all", p, sold(5, 2, 0, 6, 3, 7, 0))
}

// P18.1, P18.3, P18.4: there is as much as may be, and no more.
func TestDepositUpToTheBound(t *testing.T) {
	p := hold.Of(rich(t, 4))
	check(t, "Deposit", p.Deposit(3, 1), api.ErrLong)
	check(t, "Deposit", p.Deposit(2, big), api.ErrLong)
	check(t, "Deposit", p.Deposit(2, 0), api.OK)
	check(t, "Withdraw", p.Withdraw(2, 5), api.OK)
	check(t, "Deposit", p.Deposit(3, 6), api.ErrLong)
	check(t, "Deposit", p.Deposit(3, 5), api.OK)
	checkPurse(t, "behind all", p, sold(0, 2, most-5, 0, 3, 5, 0))
}

// P18.1, P18.4: just so much is held from now on.
func TestSet(t *testing.T) {
	for _, r := range []struct {
		amount int64
		want   api.Errno
		then   money
	}{
		{0, api.OK, sold(7, 2, 10, 0, 3, 1, 2)}, {1, api.OK, sold(7, 2, 9, 1, 3, 1, 2)}, {5, api.OK, sold(7, 2, 5, 5, 3, 1, 2)}, {6, api.OK, sold(7, 2, 4, 6, 3, 1, 2)}, {7, api.OK, sold(7, 2, 3, 7, 3, 1, 2)}, {10, api.OK, sold(7, 2, 0, 10, 3, 1, 2)},
		{11, api.ErrFunds, sold(7, 2, 4, 6, 3, 1, 2)}, {big, api.ErrFunds, sold(7, 2, 4, 6, 3, 1, 2)}, {big + 1, api.ErrArg, sold(7, 2, 4, 6, 3, 1, 2)}, {-1, api.ErrArg, sold(7, 2, 4, 6, 3, 1, 2)},
	} {
		p := purseOf(t, sold(7, 2, 4, 6, 3, 1, 2))
		check(t, "Set", p.Set(2, r.amount), r.want)
		checkPurse(t, "behind it", p, r.then)
	}
	p := hold.Of(rich(t, 4))
	check(t, "Set", p.Set(2, big), api.OK)
	checkPurse(t, "the greatest amount", p, sold(0, 2, most-big, big))
}

// P18.1: a purse of a ledger on which more is held than a move can take.
func TestMoreThanAnAmountIsHeld(t *testing.T) {
	for _, amount := range []int64{0, 1, 12345, big - 1, big} {
		p := hold.Of(rich(t, 2001))
		check(t, "Set", p.Set(1000, amount), api.OK)
		checkPurse(t, "behind Set", p, sold(0, 1000, most-amount, amount))
	}
	p := hold.Of(rich(t, 2001))
	check(t, "Pay", p.Pay(1000, big), api.OK)
	check(t, "Pay", p.Pay(1000, 7), api.OK)
	check(t, "Pay", p.Pay(1000, big+1), api.ErrArg)
	if n, e := p.Refund(1000); n != most-big-7 || e != api.OK {
		t.Errorf("Refund: %d, error %d", n, e)
	}
	checkPurse(t, "behind Refund", p, sold(big+7, 1000, most-big-7, 0))
	if n, e := p.Refund(1000); n != 0 || e != api.OK {
		t.Errorf("Refund: %d, error %d", n, e)
	}
	checkPurse(t, "behind another one", p, sold(big+7, 1000, most-big-7, 0))
	p = hold.Of(rich(t, 1))
	checkPurse(t, "all is the seller's", p, sold(most))
}

// P18.1, P18.2, P18.4: what is paid goes from what is held to the seller; nothing else turns.
func TestPay(t *testing.T) {
	p := purseOf(t, sold(7, 2, 4, 6, 3, 1, 2))
	check(t, "Pay", p.Pay(2, 7), api.ErrFunds)
	check(t, "Pay", p.Pay(4, 1), api.ErrFunds)
	check(t, "Pay", p.Pay(4, 0), api.OK)
	check(t, "Pay", p.Pay(2, 0), api.OK)
	checkPurse(t, "behind what is refused", p, sold(7, 2, 4, 6, 3, 1, 2))
	check(t, "Pay", p.Pay(2, 6), api.OK)
	check(t, "Pay", p.Pay(2, 1), api.ErrFunds)
	check(t, "Pay", p.Pay(3, 1), api.OK)
	checkPurse(t, "behind all", p, sold(14, 2, 4, 0, 3, 1, 1))
}

// P18.1: all that is held of one is free; of the others nothing turns.
func TestRefund(t *testing.T) {
	p := purseOf(t, sold(7, 2, 4, 6, 3, 1, 2, 1000, 0, 3))
	for party, want := range map[int]int64{2: 6, 1000: 3, 4: 0} {
		if n, e := p.Refund(party); n != want || e != api.OK {
			t.Errorf("Refund of %d: %d, error %d", party, n, e)
		}
	}
	checkPurse(t, "behind all", p, sold(7, 2, 10, 0, 3, 1, 2, 1000, 3, 0))
}

// P18.1, P18.2, P18.4: all bills are paid or none; the first one's error.
func TestSettle(t *testing.T) {
	was := sold(7, 2, 4, 6, 3, 1, 2)
	for i, r := range []struct {
		bills []hold.Bill
		want  api.Errno
		then  money
	}{
		{[]hold.Bill{{2, 6}, {3, 2}}, api.OK, sold(15, 2, 4, 0, 3, 1, 0)}, {[]hold.Bill{{3, 1}, {2, 1}, {3, 1}, {2, 4}}, api.OK, sold(14, 2, 4, 1, 3, 1, 0)}, {[]hold.Bill{{2, 0}, {4, 0}}, api.OK, was},
		{[]hold.Bill{{2, 7}}, api.ErrFunds, was}, {[]hold.Bill{{2, 5}, {2, 2}}, api.ErrFunds, was}, {[]hold.Bill{{2, 6}, {3, 3}}, api.ErrFunds, was}, {[]hold.Bill{{2, 6}, {3, 2}, {4, 1}}, api.ErrFunds, was},
		{[]hold.Bill{{2, 6}, {1, 0}}, api.ErrArg, was}, {[]hold.Bill{{2, 6}, {3, -1}}, api.ErrArg, was}, {[]hold.Bill{{2, 6}, {3, big + 1}}, api.ErrArg, was},
		{[]hold.Bill{{2, 1}, {1001, 1}, {2, 9}}, api.ErrArg, was}, {[]hold.Bill{{2, 1}, {2, 9}, {1001, 1}}, api.ErrFunds, was}, {[]hold.Bill{{2, 6}, {}}, api.ErrArg, was},
	} {
		p := purseOf(t, was)
		if e := p.Settle(r.bills); e != r.want {
			t.Errorf("%d: error %d, not %d", i, e, r.want)
		}
		checkPurse(t, "behind it", p, r.then)
	}
}

// P18.1: a ledger of a purse, and a purse of a ledger, have the same balances, and go their own ways.
func TestLedgerAndOf(t *testing.T) {
	p := purseOf(t, sold(7, 2, 4, 6))
	l := p.Ledger()
	q := hold.Of(l)
	r := *p
	checkPurse(t, "a purse of its ledger", q, sold(7, 2, 4, 6))
	check(t, "Move", l.Move(0, 4, 1), api.OK)
	check(t, "Withdraw", p.Withdraw(2, 3), api.OK)
	check(t, "Pay", q.Pay(2, 6), api.OK)
	check(t, "Deposit", r.Deposit(3, 5), api.OK)
	checkPurse(t, "the first one", p, sold(7, 2, 1, 6))
	checkPurse(t, "the other one", q, sold(13, 2, 4, 0))
	checkPurse(t, "the copy", &r, sold(7, 2, 4, 6, 3, 5, 0))
	checkPurse(t, "one of the ledger", hold.Of(l), sold(7, 2, 5, 6))
	one, other := p.Ledger(), p.Ledger()
	check(t, "Move", one.Move(4, 0, 1), api.OK)
	if other.Balance(4) != 1 || p.Has(2) != 1 || !other.Same(p.Ledger()) {
		t.Error("two ledgers of one purse are the same one")
	}
}

// partyOf is a party at random, of few, or a number that isn't one.
func partyOf(rnd *rand.Rand) int {
	if rnd.IntN(16) == 0 {
		return others()[rnd.IntN(len(others()))]
	}
	return []int{2, 3, 4, 1000}[rnd.IntN(4)]
}

// amountOf is an amount at random, mostly a small one, or a number that isn't one.
func amountOf(rnd *rand.Rand) int64 {
	if rnd.IntN(24) == 0 {
		return []int64{-1, big, big - 1, big, big + 1, math.MinInt64, math.MaxInt64}[rnd.IntN(7)]
	}
	return rnd.Int64N(10)
}

// turn does one thing at random to a purse and to what it is held to: what both answered.
func turn(rnd *rand.Rand, p *hold.Purse, m *money) (got, want [2]int64) {
	party, amount := partyOf(rnd), amountOf(rnd)
	told := func(e api.Errno) [2]int64 { return [2]int64{int64(e), 0} }
	switch rnd.IntN(7) {
	case 0, 1:
		return told(p.Deposit(party, amount)), told(m.deposit(party, amount))
	case 2:
		return told(p.Withdraw(party, amount)), told(m.withdraw(party, amount))
	case 3:
		return told(p.Set(party, amount)), told(m.set(party, amount))
	case 4:
		return told(p.Pay(party, amount)), told(m.pay(party, amount))
	case 5:
		much, e := p.Refund(party)
		should, f := m.refund(party)
		return [2]int64{int64(e), much}, [2]int64{int64(f), should}
	}
	var bills []hold.Bill
	for range rnd.IntN(4) {
		bills = append(bills, hold.Bill{Party: partyOf(rnd), Amount: amountOf(rnd) / 2})
	}
	behind := m.clone()
	e := behind.settle(bills)
	if e == api.OK {
		*m = *behind
	}
	return told(p.Settle(bills)), told(e)
}

// P18.1, P18.3, P18.4: every order of calls.
func TestCallsAtRandom(t *testing.T) {
	rnd := rand.New(rand.NewPCG(1, 18))
	answered := map[int64]int{}
	for range 200 {
		var p hold.Purse
		m := sold(0)
		for range rnd.IntN(80) {
			got, want := turn(rnd, &p, &m)
			if got != want {
				t.Fatalf("%v, not %v", got, want)
			}
			answered[want[0]]++
			if p.Worth() != m.worth() {
				t.Fatalf("all have %d, not %d", p.Worth(), m.worth())
			}
		}
		checkPurse(t, "behind all", &p, m)
	}
	if answered[int64(api.OK)] < 1000 || answered[int64(api.ErrArg)] < 300 || answered[int64(api.ErrFunds)] < 300 {
		t.Errorf("answers: %v", answered)
	}
}

// P18.3: what all have is what was deposited less what was withdrawn, whatever else is done.
func TestWorth(t *testing.T) {
	rnd := rand.New(rand.NewPCG(2, 18))
	for range 100 {
		var p hold.Purse
		var worth int64
		for range 60 {
			party, amount := partyOf(rnd), amountOf(rnd)
			if p.Deposit(party, amount) == api.OK {
				worth += amount
			}
			if less := amountOf(rnd); p.Withdraw(party, less) == api.OK {
				worth -= less
			}
			p.Set(partyOf(rnd), amountOf(rnd))
			p.Settle([]hold.Bill{{partyOf(rnd), amountOf(rnd)}, {partyOf(rnd), amountOf(rnd)}})
			if rnd.IntN(4) == 0 {
				p.Refund(partyOf(rnd))
			}
			if p.Worth() != worth || p.Ledger().Balance(0) != -worth {
				t.Fatalf("all have %d, the outside %d, not %d", p.Worth(), p.Ledger().Balance(0), worth)
			}
		}
	}
}

// The rules that hold everywhere: bills stay, the memory behind their length too, and may be written over behind the call.
func TestArguments(t *testing.T) {
	room := []hold.Bill{{2, 1}, {3, 2}, {2, 9}, {-1, -1}}
	kept := slices.Clone(room)
	p := purseOf(t, sold(7, 2, 4, 6, 3, 1, 2))
	for n := range room {
		p.Settle(room[:n])
	}
	if !slices.Equal(room, kept) {
		t.Errorf("%v became %v", kept, room)
	}
	clear(room)
	checkPurse(t, "behind it", p, sold(11, 2, 4, 4, 3, 1, 0))
	l := p.Ledger()
	before := ledger.Write(l)
	q := hold.Of(l)
	q.Refund(2)
	if !bytes.Equal(ledger.Write(l), before) {
		t.Error("a ledger that is handed in is turned")
	}
}

// P1 of the whole: long rows of bills end.
func TestLongRows(t *testing.T) {
	soon(t, "a call of a long row", func() {
		p := hold.Of(rich(t, 5))
		bills := slices.Repeat([]hold.Bill{{2, 3}}, 500000)
		check(t, "Settle", p.Settle(append(slices.Clip(bills), hold.Bill{})), api.ErrArg)
		checkPurse(t, "behind what is refused", p, sold(0, 2, 0, most))
		check(t, "Settle", p.Settle(bills), api.OK)
		checkPurse(t, "behind all", p, sold(1500000, 2, 0, most-1500000))
	})
}

// P2 of the whole: the same calls are answered the same.
func TestAnswersHangOnCalls(t *testing.T) {
	told := func() []byte {
		rnd := rand.New(rand.NewPCG(3, 18))
		var p hold.Purse
		m := sold(0)
		var got []byte
		for range 300 {
			answer, _ := turn(rnd, &p, &m)
			got = append(got, byte(answer[0]), byte(answer[1]))
			got = append(got, ledger.Write(p.Ledger())...)
		}
		return got
	}
	first := told()
	for range 3 {
		if !bytes.Equal(told(), first) {
			t.Error("the same calls are answered otherwise")
		}
	}
}
