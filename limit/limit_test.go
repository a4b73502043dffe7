// The tests of layer 22. Above each stands the promise that it holds the program to.
package limit_test

import (
	"math"
	"math/big"
	"math/rand/v2"
	"slices"
	"testing"
	"time"

	"saleroom/api"
	"saleroom/limit"
	"saleroom/round"
	"saleroom/xor"
)

const (
	top   int64 = 1 << 40 // the greatest amount, eps and number of rounds
	bytes int64 = 1 << 50 // the most that is set aside
	every       = math.MaxUint64
)

// numbers are numbers at the ends of all ranges.
var numbers = []int64{math.MinInt64, math.MinInt64 + 1, -bytes, -top, -2, -1, 0, 1, 2, 3, 63, 64, 65, 1000, top/2 - 1, top / 2, top - 1, top, top + 1, 2 * top, bytes/64 - 4, bytes/64 - 3, bytes / 64, bytes - 64, bytes - 1, bytes, bytes + 1, 1<<62 - 1, 1 << 62, math.MaxInt64 - 1, math.MaxInt64}

// list is amounts, as a list.
func list(ns ...int64) []int64 { return ns }

// isAmount tells whether a number is an amount.
func isAmount(n int64) bool { return n >= 0 && n <= top }

// roundsOf is what Rounds is held to, reckoned with whole numbers that can't go round.
func roundsOf(most []int64, eps int64) (int64, bool) {
	if eps < 1 || eps > top {
		return 0, false
	}
	sum := new(big.Int)
	for _, n := range most {
		if !isAmount(n) {
			return 0, false
		}
		quotient, rest := new(big.Int).QuoRem(big.NewInt(n), big.NewInt(eps), new(big.Int))
		if rest.Sign() > 0 {
			quotient.Add(quotient, big.NewInt(1))
		}
		sum.Add(sum, quotient)
	}
	if sum.Cmp(big.NewInt(top)) > 0 {
		return 0, false
	}
	return sum.Int64(), true
}

// roomOf is what Room is held to.
func roomOf(rounds int64, bidders int) int64 {
	sum := big.NewInt(max(rounds, 0))
	sum.Add(sum, big.NewInt(1+2))
	sum.Add(sum, big.NewInt(int64(max(bidders, 0))))
	sum.Mul(sum, big.NewInt(64))
	if sum.Cmp(big.NewInt(bytes)) > 0 {
		return bytes
	}
	return sum.Int64()
}

// checkRounds: values take as many rounds as they should, by eps.
func checkRounds(t *testing.T, most []int64, eps int64) {
	t.Helper()
	n, ok := limit.Rounds(most, eps)
	if want, is := roundsOf(most, eps); n != want || ok != is {
		t.Errorf("Rounds of %v, eps %d: %d, %v, not %d, %v", most, eps, n, ok, want, is)
	}
}

// soon fails a test in which a call doesn't end.
func soon(t *testing.T, what string, do func()) {
	t.Helper()
	done := make(chan struct{})
	go func() {
		defer close(done)
		do()
	}()
	select {
	case <-done:
	case <-time.After(30 * time.Second):
		t.Fatalf("%s doesn't end", what)
	}
}

// valuesOf are values at random: few or many, small or great, some of them no amounts.
func valuesOf(rnd *rand.Rand, n int) []int64 {
	bound := []int64{3, 30, 1000, top, top}[n%5]
	var most []int64
	for range rnd.IntN(1 + n%9*3) {
		most = append(most, rnd.Int64N(bound+1))
	}
	if n%11 == 0 && len(most) > 0 {
		most[rnd.IntN(len(most))] = numbers[rnd.IntN(len(numbers))]
	}
	return most
}

// P22.1: how many rounds there can be, by hand.
func TestRoundsByHand(t *testing.T) {
	for _, r := range []struct {
		most []int64
		eps  int64
		n    int64
		ok   bool
	}{
		{nil, 1, 0, true}, {list(), top, 0, true}, {list(0), 1, 0, true}, {list(0, 0, 0), 3, 0, true},
		{list(5, 3), 2, 5, true}, {list(5, 3, 0), 2, 5, true}, {list(4), 2, 2, true}, {list(4), 3, 2, true}, {list(4), 4, 1, true}, {list(4), 5, 1, true},
		{list(1), top, 1, true}, {list(top), top, 1, true}, {list(top), top - 1, 2, true}, {list(top), 1, top, true}, {list(top-1, 1), 1, top, true},
		{list(top, 1), 1, 0, false}, {list(top, top), 2, top, true}, {list(top, top, 1), 2, 0, false}, {list(1, 1), top, 2, true},
		{list(5), 0, 0, false}, {list(5), -1, 0, false}, {list(5), math.MinInt64, 0, false}, {list(5), top + 1, 0, false}, {list(5), math.MaxInt64, 0, false}, {nil, 0, 0, false}, {nil, top + 1, 0, false},
		{list(-1), 1, 0, false}, {list(top + 1), top, 0, false}, {list(5, -1), 2, 0, false}, {list(-1, 5), 2, 0, false}, {list(math.MinInt64), 1, 0, false}, {list(math.MaxInt64), top, 0, false}, {list(5, math.MinInt64, math.MaxInt64), 1, 0, false},
	} {
		if n, ok := limit.Rounds(r.most, r.eps); n != r.n || ok != r.ok {
			t.Errorf("Rounds of %v, eps %d: %d, %v", r.most, r.eps, n, ok)
		}
	}
}

// P22.1: Rounds, of the ends of all ranges, and at random.
func TestRoundsAtRandom(t *testing.T) {
	rnd := rand.New(rand.NewPCG(1, 22))
	for _, eps := range numbers {
		for _, n := range numbers {
			for _, m := range numbers {
				checkRounds(t, list(n, m), eps)
			}
		}
	}
	for n := range 2000 {
		most := valuesOf(rnd, n)
		for _, eps := range []int64{1, 2, 1 + rnd.Int64N(9), 1 + rnd.Int64N(1000), 1 + rnd.Int64N(top), numbers[rnd.IntN(len(numbers))]} {
			checkRounds(t, most, eps)
		}
	}
}

// planOf is what Check is held to.
func planOf(p limit.Plan) (int64, api.Errno) {
	if p.Eps < 1 || p.Eps > top || slices.ContainsFunc(p.Most, func(n int64) bool { return !isAmount(n) }) || p.Items < 1 || p.Items > 64 {
		return 0, api.ErrArg
	}
	if len(p.Most) > 64 {
		return 0, api.ErrMany
	}
	n, ok := roundsOf(p.Most, p.Eps)
	if !ok || n > int64(p.Cap) {
		return 0, api.ErrBound
	}
	return n, api.OK
}

// P22.1: whether a plan may be, by hand.
func TestPlanByHand(t *testing.T) {
	many, full := make([]int64, 65), make([]int64, 64)
	wrong := slices.Clone(many)
	wrong[64] = -1
	for i, r := range []struct {
		plan limit.Plan
		n    int64
		err  api.Errno
	}{
		{limit.Plan{Items: 1, Cap: 5, Most: list(5, 3), Eps: 2}, 5, api.OK},
		{limit.Plan{Items: 64, Cap: 6, Most: list(5, 3), Eps: 2}, 5, api.OK},
		{limit.Plan{Items: 1, Cap: 4, Most: list(5, 3), Eps: 2}, 0, api.ErrBound},
		{limit.Plan{Items: 1, Cap: 0, Most: nil, Eps: 1}, 0, api.OK},
		{limit.Plan{Items: 1, Cap: 0, Most: full, Eps: 1}, 0, api.OK},
		{limit.Plan{Items: 1, Cap: -1, Most: nil, Eps: 1}, 0, api.ErrBound},
		{limit.Plan{Items: 1, Cap: math.MinInt, Most: list(0), Eps: 1}, 0, api.ErrBound},
		{limit.Plan{Items: 1, Cap: math.MaxInt, Most: list(top), Eps: 1}, top, api.OK},
		{limit.Plan{Items: 1, Cap: math.MaxInt, Most: list(top, 1), Eps: 1}, 0, api.ErrBound},
		{limit.Plan{Items: 1, Cap: math.MaxInt, Most: list(top, top), Eps: top}, 2, api.OK},
		{limit.Plan{Items: 1, Cap: math.MaxInt, Most: many, Eps: 1}, 0, api.ErrMany},
		{limit.Plan{Items: 1, Cap: -1, Most: many, Eps: 1}, 0, api.ErrMany},
		{limit.Plan{}, 0, api.ErrArg},
		{limit.Plan{Items: 0, Cap: 5, Eps: 2}, 0, api.ErrArg},
		{limit.Plan{Items: -1, Cap: 5, Eps: 2}, 0, api.ErrArg},
		{limit.Plan{Items: 65, Cap: 5, Eps: 2}, 0, api.ErrArg},
		{limit.Plan{Items: math.MaxInt, Cap: 5, Eps: 2}, 0, api.ErrArg},
		{limit.Plan{Items: 1, Cap: 5, Eps: 0}, 0, api.ErrArg},
		{limit.Plan{Items: 1, Cap: 5, Eps: -3}, 0, api.ErrArg},
		{limit.Plan{Items: 1, Cap: 5, Eps: top}, 0, api.OK},
		{limit.Plan{Items: 1, Cap: 5, Eps: top + 1}, 0, api.ErrArg},
		{limit.Plan{Items: 1, Cap: 5, Most: list(1, -1), Eps: 1}, 0, api.ErrArg},
		{limit.Plan{Items: 1, Cap: 5, Most: list(top + 1), Eps: 1}, 0, api.ErrArg},
		{limit.Plan{Items: 1, Cap: 5, Most: list(top, top, top+1), Eps: 1}, 0, api.ErrArg}, // ahead of too many rounds
		{limit.Plan{Items: 1, Cap: 5, Most: wrong, Eps: 1}, 0, api.ErrArg},                 // ahead of too many bidders
		{limit.Plan{Items: 65, Cap: 5, Most: many, Eps: 1}, 0, api.ErrArg},
		{limit.Plan{Items: 1, Cap: 5, Most: many, Eps: 0}, 0, api.ErrArg},
	} {
		if n, err := r.plan.Check(); n != r.n || err != r.err {
			t.Errorf("%d: Check is %d, %d, not %d, %d", i, n, err, r.n, r.err)
		}
	}
}

// P22.1: plans at random; each stays as it was.
func TestPlansAtRandom(t *testing.T) {
	rnd := rand.New(rand.NewPCG(2, 22))
	met := map[api.Errno]int{}
	for n := range 4000 {
		p := limit.Plan{Items: 1 + rnd.IntN(64), Cap: rnd.IntN(60), Most: valuesOf(rnd, n), Eps: 1 + rnd.Int64N(20)}
		switch n % 7 {
		case 1:
			p.Items = int(numbers[rnd.IntN(len(numbers))])
		case 2:
			p.Cap = int(numbers[rnd.IntN(len(numbers))])
		case 3:
			p.Eps = numbers[rnd.IntN(len(numbers))]
		case 4:
			p.Most = append(p.Most, make([]int64, rnd.IntN(80))...)
		case 5:
			rounds, _ := roundsOf(p.Most, p.Eps)
			p.Cap = int(rounds) - rnd.IntN(2)
		}
		kept := slices.Clone(p.Most)
		got, err := p.Check()
		if want, is := planOf(p); got != want || err != is {
			t.Errorf("Check of %+v is %d, %d, not %d, %d", p, got, err, want, is)
		}
		if !slices.Equal(p.Most, kept) {
			t.Errorf("Check turns %v to %v", kept, p.Most)
		}
		met[err]++
	}
	for _, err := range []api.Errno{api.OK, api.ErrArg, api.ErrMany, api.ErrBound} {
		if met[err] < 100 {
			t.Errorf("the error %d came %d times alone", err, met[err])
		}
	}
}

// P22.1: how many bytes are set aside, and whether there is so much room.
func TestRoom(t *testing.T) {
	if limit.Step != 64 {
		t.Errorf("Step is %d", limit.Step)
	}
	for _, r := range []struct {
		rounds  int64
		bidders int
		room    int64
	}{
		{0, 0, 192}, {5, 2, 640}, {1, 0, 256}, {0, 1, 256}, {-1, -1, 192}, {-5, 1, 256}, {1, -5, 256},
		{top, 64, (top + 67) * 64}, {bytes/64 - 3, 0, bytes}, {bytes/64 - 4, 0, bytes - 64}, {bytes/64 - 3, 1, bytes}, {0, int(bytes/64) - 3, bytes}, {0, int(bytes/64) - 4, bytes - 64},
		{math.MaxInt64, 0, bytes}, {0, math.MaxInt, bytes}, {math.MaxInt64, math.MaxInt, bytes}, {math.MinInt64, math.MaxInt, bytes}, {math.MinInt64, math.MinInt, 192},
	} {
		if n := limit.Room(r.rounds, r.bidders); n != r.room {
			t.Errorf("Room of %d, %d is %d, not %d", r.rounds, r.bidders, n, r.room)
		}
	}
	for _, rounds := range numbers {
		for _, bidders := range numbers {
			want := roomOf(rounds, int(bidders))
			if n := limit.Room(rounds, int(bidders)); n != want {
				t.Errorf("Room of %d, %d is %d, not %d", rounds, bidders, n, want)
			}
			for _, room := range append(list(want-1, want, want+1), numbers...) {
				if ok := limit.Fits(rounds, int(bidders), room); ok != (want <= room) {
					t.Errorf("Fits of %d, %d, %d is %v", rounds, bidders, room, ok)
				}
			}
		}
	}
}

// P22.1: the greatest number of rounds that fits into a room: none more does.
func TestWidest(t *testing.T) {
	for _, r := range []struct {
		room    int64
		bidders int
		n       int64
		ok      bool
	}{
		{700, 2, 5, true}, {640, 2, 5, true}, {639, 2, 4, true}, {320, 2, 0, true}, {319, 2, 0, false}, {300, 2, 0, false}, {192, 0, 0, true}, {191, 0, 0, false}, {192, -7, 0, true}, {255, 0, 0, true}, {256, 0, 1, true},
		{0, 0, 0, false}, {-1, 0, 0, false}, {math.MinInt64, 0, 0, false}, {math.MaxInt64, 0, top, true}, {math.MaxInt64, math.MaxInt, top, true}, {bytes, math.MaxInt, top, true}, {bytes - 1, math.MaxInt, 0, false},
		{(top + 3) * 64, 0, top, true}, {(top+3)*64 - 1, 0, top - 1, true}, {(top + 4) * 64, 0, top, true}, {bytes, 0, top, true}, {bytes, int(bytes/64) - 13, top, true}, {bytes - 1, int(bytes/64) - 13, 9, true},
	} {
		if n, ok := limit.Widest(r.room, r.bidders); n != r.n || ok != r.ok {
			t.Errorf("Widest of %d, %d is %d, %v, not %d, %v", r.room, r.bidders, n, ok, r.n, r.ok)
		}
	}
	rnd := rand.New(rand.NewPCG(3, 22))
	rooms := slices.Clone(numbers)
	for range 300 {
		rooms = append(rooms, rnd.Int64N(5000), rnd.Int64N(bytes+1000))
	}
	for _, room := range rooms {
		for _, bidders := range append(slices.Clone(numbers), rnd.Int64N(70), rnd.Int64N(bytes/64)) {
			b := int(bidders)
			n, ok := limit.Widest(room, b)
			if ok != (roomOf(0, b) <= room) {
				t.Errorf("Widest of %d, %d is %d, %v", room, b, n, ok)
			}
			if ok && (n < 0 || n > top || roomOf(n, b) > room || n < top && roomOf(n+1, b) <= room) || !ok && n != 0 {
				t.Errorf("Widest of %d, %d is %d", room, b, n)
			}
		}
	}
}

// P22.1: the valuations of reserve bidders, and their reserves.
func TestSplit(t *testing.T) {
	long := make([]int64, 70)
	for i := range long {
		long[i] = int64(i)
	}
	full := slices.Repeat(list(top), 66)
	for i, reserves := range [][]int64{
		nil, {}, {0}, {0, 0, 0}, {4}, {0, 7, 1 << 41, 2}, {-1, 5, math.MinInt64, 1}, {top, top + 1, top - 1, math.MaxInt64, 1}, long, long[:64], long[:63], full, full[:64], numbers,
	} {
		kept := slices.Clone(reserves)
		vs, all := limit.Split(reserves)
		var want []api.Atom
		var sum int64
		for item, n := range reserves {
			if item < 64 && n >= 1 && n <= top {
				want = append(want, api.Atom{Set: 1 << item, Value: n})
				sum += n
			}
		}
		var got []api.Atom
		for _, v := range vs {
			if a, ok := v.At(0); ok && v.Len() == 1 {
				got = append(got, a)
			}
		}
		if len(vs) != len(want) || !slices.Equal(got, want) || all != sum {
			t.Errorf("%d: Split is %v, %d, not %v, %d", i, vs, all, want, sum)
		}
		if limit.Kept(reserves, every) != sum {
			t.Errorf("%d: Kept of all items is %d, not %d", i, limit.Kept(reserves, every), sum)
		}
		if !slices.Equal(reserves, kept) {
			t.Errorf("%d: the reserves are turned", i)
		}
	}
	if _, all := limit.Split(full); all != 64*top {
		t.Errorf("64 greatest reserves are %d", all)
	}
}

// P22.1: the reserves of a set's items.
func TestKept(t *testing.T) {
	for _, r := range []struct {
		reserves []int64
		s        uint64
		n        int64
	}{
		{nil, every, 0}, {nil, 0, 0}, {list(1, 2, 4), 0, 0}, {list(1, 2, 4), 1, 1}, {list(1, 2, 4), 5, 5}, {list(1, 2, 4), 6, 6}, {list(1, 2, 4), 7, 7}, {list(1, 2, 4), 8, 0}, {list(1, 2, 4), every, 7}, {list(1, 2, 4), 1<<63 | 2, 2},
		{list(0, 7, 1<<41, 2), 15, 9}, {list(-5, 7), 3, 7}, {list(top, top), 3, 2 * top}, {list(top+1, 1), 3, 1}, {list(math.MaxInt64, math.MaxInt64, 3), 7, 3}, {list(math.MinInt64, 1), 1, 0},
		{append(make([]int64, 63), 9, 10), 1 << 63, 9}, {append(make([]int64, 63), 9, 10), every, 9},
	} {
		if n := limit.Kept(r.reserves, r.s); n != r.n {
			t.Errorf("Kept of %v, %b is %d, not %d", r.reserves, r.s, n, r.n)
		}
	}
	rnd := rand.New(rand.NewPCG(4, 22))
	for n := range 500 {
		reserves, s := append(valuesOf(rnd, n), valuesOf(rnd, n+1)...), rnd.Uint64()
		var want int64
		for item, r := range reserves {
			if item < 64 && s>>item&1 == 1 && r > 0 && r <= top {
				want += r
			}
		}
		if got := limit.Kept(reserves, s); got != want {
			t.Errorf("Kept of %v, %b is %d, not %d", reserves, s, got, want)
		}
	}
}

// P22.1: what is answered is other memory than what is handed in, and than what is answered again.
func TestAnswersAreNew(t *testing.T) {
	reserves := list(3, 0, 5)
	one, _ := limit.Split(reserves)
	other, _ := limit.Split(reserves)
	clear(reserves)
	clear(one[:cap(one)])
	want := xor.New([]api.Atom{{Set: 1, Value: 3}})
	if len(other) != 2 || !other[0].Same(want) || other[1].Value(4) != 5 {
		t.Errorf("Split is %v then", other)
	}
}

// checkLeast: the least eps is what it should be: with one less there are more rounds than may be.
func checkLeast(t *testing.T, most []int64, allowed int64) {
	t.Helper()
	eps, ok := limit.Least(most, allowed)
	above := int64(0)
	right := true
	for _, n := range most {
		right = right && isAmount(n)
		if n > 0 {
			above++
		}
	}
	if ok != (right && above <= allowed) || !ok && eps != 0 {
		t.Errorf("Least of %v, %d is %d, %v", most, allowed, eps, ok)
	}
	if !ok {
		return
	}
	if n, is := roundsOf(most, eps); !is || n > allowed {
		t.Errorf("Least of %v, %d is %d, of %d rounds", most, allowed, eps, n)
	}
	if n, is := roundsOf(most, eps-1); is && n <= allowed {
		t.Errorf("Least of %v, %d is %d, but one less is of %d rounds", most, allowed, eps, n)
	}
}

// P22.1: the least eps by which values take no more rounds than are allowed.
func TestLeast(t *testing.T) {
	for _, r := range []struct {
		most    []int64
		allowed int64
		eps     int64
		ok      bool
	}{
		{nil, 0, 1, true}, {nil, -1, 0, false}, {list(0, 0), 0, 1, true}, {list(0), -1, 0, false}, {list(0), math.MinInt64, 0, false}, {list(0, 5), 0, 0, false},
		{list(5, 3), 8, 1, true}, {list(5, 3), 9, 1, true}, {list(5, 3), 7, 2, true}, {list(5, 3), 5, 2, true}, {list(5, 3), 4, 3, true}, {list(5, 3), 3, 3, true}, {list(5, 3), 2, 5, true}, {list(5, 3), 1, 0, false},
		{list(top), 1, top, true}, {list(top), 2, top / 2, true}, {list(top), top, 1, true}, {list(top), top - 1, 2, true}, {list(top), math.MaxInt64, 1, true},
		{list(top, top), math.MaxInt64, 2, true}, {list(top, 1), math.MaxInt64, 2, true}, {list(top-1, 1), math.MaxInt64, 1, true}, {list(top, top), 2, top, true}, {list(top, top), 1, 0, false},
		{list(-1), 5, 0, false}, {list(5, top+1), 9, 0, false}, {list(math.MinInt64), math.MaxInt64, 0, false}, {list(math.MaxInt64), math.MaxInt64, 0, false},
	} {
		if eps, ok := limit.Least(r.most, r.allowed); eps != r.eps || ok != r.ok {
			t.Errorf("Least of %v, %d is %d, %v, not %d, %v", r.most, r.allowed, eps, ok, r.eps, r.ok)
		}
	}
	rnd := rand.New(rand.NewPCG(5, 22))
	for n := range 1500 {
		most := valuesOf(rnd, n)
		kept := slices.Clone(most)
		for _, allowed := range append(list(int64(len(most)), int64(len(most))-1, rnd.Int64N(100), rnd.Int64N(top), top), numbers[rnd.IntN(len(numbers))]) {
			checkLeast(t, most, allowed)
		}
		if !slices.Equal(most, kept) {
			t.Errorf("Least turns %v to %v", kept, most)
		}
	}
}

// P22.2: a floor of valuations has as its bound what Rounds tells of their greatest values.
func TestFloors(t *testing.T) {
	rnd := rand.New(rand.NewPCG(6, 22))
	for n := range 500 {
		var vs []xor.Val
		var most []int64
		for range rnd.IntN(2 + n%64) {
			var as []api.Atom
			for range rnd.IntN(4) {
				as = append(as, api.Atom{Set: rnd.Uint64(), Value: 1 + rnd.Int64N([]int64{9, 1000, top / 64}[n%3])})
			}
			vs = append(vs, xor.New(as))
			most = append(most, vs[len(vs)-1].Most())
		}
		for _, eps := range list(1, 2, 1+rnd.Int64N(20), 1+rnd.Int64N(top), top) {
			rounds, ok := limit.Rounds(most, eps)
			if bound := round.New(vs, eps).Bound(); !ok || bound != rounds {
				t.Errorf("the bound of a floor of %v, eps %d, is %d, not %d", most, eps, bound, rounds)
			}
		}
	}
}

// P22.3: with a greater eps, or fewer values, there are no more rounds.
func TestNoMore(t *testing.T) {
	rnd := rand.New(rand.NewPCG(7, 22))
	for n := range 1000 {
		most, eps := valuesOf(rnd, n), 1+rnd.Int64N([]int64{5, 50, top}[n%3])
		rounds, ok := limit.Rounds(most, eps)
		if !ok {
			continue
		}
		more := eps + rnd.Int64N(top-eps+1)
		if got, ok := limit.Rounds(most, more); !ok || got > rounds {
			t.Errorf("%v: %d rounds of eps %d, but %d of %d", most, rounds, eps, got, more)
		}
		if len(most) > 0 {
			at := rnd.IntN(len(most))
			fewer := slices.Delete(slices.Clone(most), at, at+1)
			if got, ok := limit.Rounds(fewer, eps); !ok || got > rounds {
				t.Errorf("%v: %d rounds, but %d without the value at %d", most, rounds, got, at)
			}
		}
	}
}

// P1 of the whole: long lists end.
func TestLongLists(t *testing.T) {
	soon(t, "a call of a long list", func() {
		long := slices.Repeat(list(3), 1<<20)
		if n, ok := limit.Rounds(long, 2); n != 2<<20 || !ok {
			t.Errorf("Rounds is %d, %v", n, ok)
		}
		if eps, ok := limit.Least(long, 1<<20); eps != 3 || !ok {
			t.Errorf("Least is %d, %v", eps, ok)
		}
		if _, err := (limit.Plan{Items: 1, Cap: math.MaxInt, Most: long, Eps: 1}).Check(); err != api.ErrMany {
			t.Errorf("Check is %d", err)
		}
		if vs, all := limit.Split(long); len(vs) != 64 || all != 3*64 || limit.Kept(long, every) != all {
			t.Errorf("Split is of %d, %d", len(vs), all)
		}
		great := slices.Repeat(list(top), 1<<25)
		if n, ok := limit.Rounds(great, 1); n != 0 || ok {
			t.Errorf("Rounds of great ones is %d, %v", n, ok)
		}
		if n, ok := limit.Rounds(great, top); n != 1<<25 || !ok {
			t.Errorf("Rounds of great ones is %d, %v", n, ok)
		}
	})
}
