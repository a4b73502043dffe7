package wdp

import (
	"cmp"
	"math"
	"slices"

	"saleroom/api"
	"saleroom/set"
)

// linear is a linear program: how much there could be got, if bids were taken
// in parts, of each item and of each bidder 1 in all. Its floats do no more
// than lead to good prices of items, with which whole numbers are reckoned
// behind this: no answer hangs on them.
type linear struct {
	rowOf   [api.MaxItems + api.MaxBidders]int // of an item; behind these of a bidder; 1 greater, so that 0 is none
	columns []column                           // first one for each row: what nobody takes of it; then the bids
	basis   []int                              // row by row the column that is in there
	level   []float64                          // row by row how much of that
	inverse [][]float64                        // of the basis, column by column
	worth   []float64                          // row by row what one more of it would give
	toward  []float64                          // row by row how much goes for the column that comes in
}

// column is the rows that something takes from, and what it gives.
type column struct {
	rows  []int
	price float64
}

// mostTurns is far more turns than it takes as a rule; what it has come to by
// then is good for prices, too.
const mostTurns = 5000

// newLinear is the program of bids, nothing of which is taken yet. What they
// give is told as parts of the greatest price, which floats are best at.
func newLinear(open []option, greatest int64) *linear {
	l := &linear{}
	rows := make([][]int, len(open))
	for k, o := range open {
		rows[k] = l.rowsOf(o.Pick)
	}
	l.start()
	for k, o := range open {
		l.columns = append(l.columns, column{rows[k], float64(o.Price) / float64(greatest)})
	}
	return l
}

// rowsOf are the rows that a bid takes from; those that aren't there yet are added.
func (l *linear) rowsOf(p api.Pick) []int {
	rows := []int{l.row(api.MaxItems + p.Bidder)}
	for item := range set.Items(p.Set) {
		rows = append(rows, l.row(item))
	}
	return rows
}

// row is the row of an item or a bidder.
func (l *linear) row(of int) int {
	if l.rowOf[of] == 0 {
		l.rowOf[of] = len(l.columns) + 1
		l.columns = append(l.columns, column{rows: []int{len(l.columns)}})
	}
	return l.rowOf[of] - 1
}

// start leaves all rows to nobody. There's a little more than 1 of each, of no
// two the same, as the way would stand still for long, or go in a ring, else.
func (l *linear) start() {
	const tilt = 1e-6
	n := len(l.columns)
	l.worth, l.toward = make([]float64, n), make([]float64, n)
	for r := range n {
		l.basis = append(l.basis, r)
		l.level = append(l.level, 1+tilt*(1+math.Mod(float64(r)*0.618034, 1)))
		l.inverse = append(l.inverse, make([]float64, n))
		l.inverse[r][r] = 1
	}
}

// solve goes on till no column that comes in gives more, or for so many turns.
func (l *linear) solve() {
	for range mostTurns {
		in, more := l.coming()
		if in < 0 {
			return
		}
		l.aim(in)
		out := l.going()
		if out < 0 {
			return
		}
		l.turn(in, out, more)
	}
}

// coming is the column that gives the most above what its rows are worth, and how much; -1, if none does.
func (l *linear) coming() (int, float64) {
	const tiny = 1e-9 // no more counts as nothing, as floats aren't exact
	in, most := -1, tiny
	for k, c := range l.columns {
		more := c.price
		for _, r := range c.rows {
			more -= l.worth[r]
		}
		if more > most {
			in, most = k, more
		}
	}
	return in, most
}

// aim tells how much of the columns in each row goes for one of the column that comes in.
func (l *linear) aim(in int) {
	clear(l.toward)
	for _, r := range l.columns[in].rows {
		for k, x := range l.inverse[r] {
			l.toward[k] += x
		}
	}
}

// going is the row whose column is used up first; -1, if none is.
func (l *linear) going() int {
	const small = 1e-7 // what is no more isn't divided by
	out := -1
	for r, x := range l.toward {
		if x > small && (out < 0 || l.level[r]*l.toward[out] < l.level[out]*x) {
			out = r
		}
	}
	return out
}

// turn puts one column in the place of another one.
func (l *linear) turn(in, out int, more float64) {
	divisor := l.toward[out]
	step := max(l.level[out], 0) / divisor
	for r, x := range l.toward {
		l.level[r] -= step * x
	}
	l.level[out] = step
	for c, column := range l.inverse {
		if part := column[out] / divisor; part != 0 {
			for r, x := range l.toward {
				column[r] -= part * x
			}
			column[out] = part
			l.worth[c] += more * part
		}
	}
	l.basis[out] = in
}

// exact is what one more of each item would give, in whole parts. The floats
// may be off by some parts; so what the columns in the basis are off by then
// is reckoned exactly, and made up for.
func (l *linear) exact(open []option, greatest int64, shift int) [api.MaxItems]int64 {
	whole := make([]int64, len(l.basis))
	for r, x := range l.worth {
		whole[r] = toWhole(math.Ldexp(x*float64(greatest), shift))
	}
	for range 2 {
		for r, more := range l.off(open, whole, shift) {
			whole[r] += more
		}
	}
	var items [api.MaxItems]int64
	for item := range items {
		if row := l.rowOf[item]; row > 0 {
			items[item] = whole[row-1]
		}
	}
	return items
}

// off is by how much each row's worth is to be more, that the columns in the basis give what their rows are worth.
func (l *linear) off(open []option, whole []int64, shift int) []int64 {
	rows := len(l.basis)
	lacking := make([]float64, rows)
	for r, k := range l.basis {
		var lack int64
		if k >= rows {
			lack = open[k-rows].Price << shift
		}
		for _, own := range l.columns[k].rows {
			lack -= whole[own]
		}
		lacking[r] = float64(lack)
	}
	more := make([]int64, rows)
	for c, column := range l.inverse {
		var sum float64
		for r, x := range column {
			sum += lacking[r] * x
		}
		more[c] = toWhole(sum)
	}
	return more
}

// toWhole is the nearest whole number; of what is no number, or too great, 0.
func toWhole(x float64) int64 {
	if math.Abs(x) < 1<<62 {
		return int64(math.Round(x))
	}
	return 0
}

// rounded takes options one by one, those of which the program takes most ahead.
func (l *linear) rounded(open []option) found {
	type part struct {
		option
		level float64
	}
	var parts []part
	for _, o := range open {
		parts = append(parts, part{o, 0})
	}
	for r, k := range l.basis {
		if rows := len(l.basis); k >= rows {
			parts[k-rows].level = l.level[r]
		}
	}
	slices.SortStableFunc(parts, func(a, b part) int {
		return cmp.Or(cmp.Compare(b.level, a.level), cmp.Compare(a.loss, b.loss))
	})
	var order []option
	for _, p := range parts {
		order = append(order, p.option)
	}
	return taking(order)
}
