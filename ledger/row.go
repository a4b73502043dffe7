package ledger

import (
	"iter"

	"saleroom/api"
	"saleroom/codec"
)

// row is an account with its balance, as it is written.
type row struct {
	account int
	balance int64
}

// rows are the balances that aren't 0, by rising account.
func (l *Ledger) rows() iter.Seq[row] {
	return func(yield func(row) bool) {
		for account, balance := range l.All() {
			if !yield(row{account, balance}) {
				return
			}
		}
	}
}

// of is the ledger that has such rows, and true; false: none has.
func of(rows []row) (*Ledger, bool) {
	var l Ledger
	for _, r := range rows {
		last, ok := l.balances.Most()
		if ok && r.account <= last || !r.right() {
			return nil, false
		}
		l.set(r.account, r.balance)
	}
	total, ok := l.sum()
	return &l, ok && total == 0
}

// right tells whether a row is one that a ledger may have.
func (r row) right() bool {
	if r.balance < 0 && r.account != api.Outside {
		return false
	}
	return Right(r.account) && r.balance != 0 && fits(r.balance)
}

func writeRow(o *codec.Out, r row) {
	o.Uint(uint64(r.account))
	o.Int(r.balance)
}

func readRow(in *codec.In) row {
	// Of all numbers that aren't accounts the least one behind them stands for
	// the greater ones, as these need not be an int.
	return row{int(min(in.Uint(), numbers)), in.Int()}
}
