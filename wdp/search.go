package wdp

import "math"

// search looks for best assignments. What it finds out of some bidders, with
// all of their bids within some items, it knows from then on.
type search struct {
	all   []option
	unit  int64     // unlike totals are as far from each other as this, or farther
	turns int       // how many times new prices were asked for
	wide  []*prices // the last ones of these, for all options
	known map[state]known
}

// known is what is known of a state: a best assignment, if it's sure, else
// that none has a total of need or more.
type known struct {
	best found
	sure bool
	need int64
}

const (
	// How often all options may be looked at with prices that stay.
	fewLooks  = 100
	manyLooks = 300
	// If there are about so few assignments, all of them may be gone through; and
	// how much may be looked at for that, as there may be more of them.
	fewAssignments = 1 << 20
	allLooks       = 1 << 28
	// What a table may cost, in looks; as much again for each time that new prices were asked for.
	tableLooks = 256
	// How many prices for all options are kept.
	mostWide = 16
)

// newSearch knows nothing yet.
func newSearch(all []option) *search {
	s := &search{all: all, known: map[state]known{}}
	for _, o := range all {
		s.unit = divisor(s.unit, o.Price)
	}
	s.unit = max(s.unit, 1)
	return s
}

// divisor is the greatest number by which two can be divided.
func divisor(a, b int64) int64 {
	for b != 0 {
		a, b = b, a%b
	}
	return a
}

// keep keeps prices, made for all options. They may well tell of other states
// that are like the one that they were asked for.
func (s *search) keep(p *prices) {
	if len(s.wide) == mostWide {
		s.wide = s.wide[1:]
	}
	s.wide = append(s.wide, p.spread(s.all))
}

// near is, of some prices and those that are kept, those by which a state can get the least.
func (s *search) near(at state, p *prices) *prices {
	least := p.upper(at)
	for _, other := range s.wide {
		if upper := other.upper(at); upper < least {
			p, least = other, upper
		}
	}
	return p
}

// upper is how much a state can get at most, by some prices and those that are kept.
func (s *search) upper(at state, p *prices) int64 {
	return s.near(at, p).upper(at) / s.unit * s.unit
}

// aim is a total that is needed, and an assignment that has it, if there's one; then more is needed.
type aim struct {
	need, unit int64
	best       found
	ok         bool
}

// take takes an assignment, if it has what is needed.
func (a *aim) take(f found) {
	if f.total >= a.need {
		a.best, a.ok, a.need = f, true, f.total+a.unit
	}
}

// best is a best assignment of options, and true; false: none has a total of
// need or more.
//
// The options may lack some of their bidders' bids within their items, if
// these can't be in an assignment that has what is needed, by all prices that
// there were so far. So no part is asked for less than that by these prices,
// and what is found out of it goes for all bids.
func (s *search) best(open []option, need int64, p *prices) (found, bool) {
	parts := partsOf(open)
	var left int64 // what the parts that weren't looked at yet can get at most
	for _, at := range parts[min(len(parts), 1):] {
		left += p.upper(at)
	}
	var sum found
	for k, at := range parts {
		f, ok := s.part(at, within(open, at, math.MaxInt64), need-sum.total-left, p)
		if !ok {
			return found{}, false
		}
		if sum = sum.with(f); k+1 < len(parts) {
			left -= p.upper(parts[k+1])
		}
	}
	return sum, sum.total >= need
}

// part is best, of options that hang together.
func (s *search) part(at state, open []option, need int64, p *prices) (found, bool) {
	if f, ok := tops(open); ok {
		return f, f.total >= need
	}
	was, ok := s.known[at]
	switch {
	case ok && was.sure:
		return was.best, was.best.total >= need
	case ok && was.need <= need:
		return found{}, false
	}
	f, sure := s.look(open, max(need, 0), p)
	s.known[at] = known{f, sure, need}
	return f, sure
}

// look is part, of what isn't known yet: first with the prices that are there,
// then with new ones, at last by going on with each of a few options.
func (s *search) look(open []option, need int64, p *prices) (found, bool) {
	a := &aim{need: need, unit: s.unit}
	if costOf(open)/(1+s.turns) <= tableLooks*weight(open) {
		a.take(newTable(open).best())
		return a.best, a.ok
	}
	p = p.of(open, s.near(stateOf(open), p))
	open, done := a.steady(p, open, fewLooks)
	if done {
		return a.best, a.ok
	}
	s.turns++
	p, f := pricesOf(open, p)
	s.keep(p)
	a.take(f)
	if open, done = a.steady(p, open, manyLooks); !done {
		s.branch(a, open, p)
	}
	return a.best, a.ok
}

// steady looks with prices that stay. It tells the options that can be in a
// better assignment yet, and whether it's sure already that there's none.
func (a *aim) steady(p *prices, open []option, looks int) ([]option, bool) {
	if p.total>>p.shift/a.unit*a.unit < a.need {
		return nil, true
	}
	open = within(open, p.at, p.slack(a.need))
	n := narrow{prices: p, unit: a.unit << p.shift, slack: p.slack(a.need), work: looks * weight(open)}
	if assignments(open) <= fewAssignments {
		n.work = max(n.work, allLooks)
	}
	n.look(open, p.at, 0)
	if n.found {
		a.take(foundOf(n.best...))
	}
	return within(open, p.at, p.slack(a.need)), !n.cut
}

// branch goes on with each option of a knot, and without them.
func (s *search) branch(a *aim, open []option, p *prices) {
	if len(partsOf(open)) > 1 {
		s.behind(a, found{}, open, p)
		return
	}
	k, _ := p.knot(open, p.at, p.slack(a.need))
	for _, o := range k.options(open, p.at) {
		if o.loss <= p.slack(a.need) {
			s.behind(a, foundOf(o), within(open, p.at.without(o.Pick), math.MaxInt64), p)
		}
	}
	if k.loss <= p.slack(a.need) {
		s.behind(a, found{}, within(open, k.left(p.at), math.MaxInt64), p)
	}
}

// behind goes on behind what is taken already.
func (s *search) behind(a *aim, taken found, open []option, p *prices) {
	if f, ok := s.best(open, a.need-taken.total, p); ok {
		a.take(taken.with(f))
	}
}
