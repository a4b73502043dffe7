// The tests of layer 1. Above each stands the promise that it holds the program to.
package money_test

import (
	"iter"
	"math"
	"math/big"
	"math/rand/v2"
	"slices"
	"testing"

	"saleroom/api"
	"saleroom/money"
)

const most = 1 << 47 // of a sum

// numbers are the ends of the document's ranges and of int64, their neighbours, and some between.
func numbers() []int64 {
	ns := []int64{2, 3, 7, 1000, math.MaxInt64, math.MaxInt64 - 1, math.MinInt64, math.MinInt64 + 1}
	for _, n := range []int64{0, 11863283, 1 << 17, 1 << 23, 1 << 24, 1 << 32, api.MaxMoney, 1 << 46, most, 1 << 48, 1 << 62} {
		ns = append(ns, n-1, n, n+1, -n-1, -n, -n+1)
	}
	rnd := rand.New(rand.NewPCG(1, 1))
	for range 60 {
		n := int64(rnd.Uint64()) >> rnd.IntN(64)
		ns = append(ns, n)
	}
	return ns
}

func isSum(n *big.Int) bool {
	return n.CmpAbs(big.NewInt(most)) <= 0
}

// told is what must be told of a whole number, if all arguments are sums.
func told(n *big.Int, arguments ...int64) (int64, bool) {
	for _, a := range arguments {
		if !isSum(big.NewInt(a)) {
			return 0, false
		}
	}
	if !isSum(n) {
		return 0, false
	}
	return n.Int64(), true
}

// P1.1: the ends of the range of amounts.
func TestRight(t *testing.T) {
	for n, want := range map[int64]bool{
		0: true, 1: true, 12345: true, 1<<40 - 1: true, 1 << 40: true,
		-1: false, 1<<40 + 1: false, 1 << 47: false, -1 << 40: false, math.MinInt64: false, math.MaxInt64: false,
		1<<32 + 5: true, 1<<41 + 5: false, 1<<62 + 5: false,
	} {
		if money.Right(n) != want {
			t.Errorf("Right(%d) is not %v", n, want)
		}
	}
	for _, n := range numbers() {
		if want := n >= 0 && n <= 1<<40; money.Right(n) != want {
			t.Errorf("Right(%d) is not %v", n, want)
		}
	}
}

// P1.1: sums, differences and products that the document's ranges decide, by hand.
func TestAddSubMulByHand(t *testing.T) {
	type row struct {
		a, b int64
		want int64
		ok   bool
	}
	check := func(name string, call func(a, b int64) (int64, bool), rows []row) {
		for _, r := range rows {
			if got, ok := call(r.a, r.b); got != r.want || ok != r.ok {
				t.Errorf("%s(%d, %d): %d %v, not %d %v", name, r.a, r.b, got, ok, r.want, r.ok)
			}
		}
	}
	check("Add", money.Add, []row{
		{0, 0, 0, true}, {2, 3, 5, true}, {2, -3, -1, true}, {-2, -3, -5, true},
		{most, 0, most, true}, {most, 1, 0, false}, {1, most, 0, false}, {most - 1, 1, most, true},
		{-most, 0, -most, true}, {-most, -1, 0, false}, {1 - most, -1, -most, true}, {most, -most, 0, true},
		{most / 2, most / 2, most, true}, {most, most, 0, false}, {-most, -most, 0, false},
		{most + 1, 0, 0, false}, {most + 1, -1, 0, false}, {-1, most + 1, 0, false}, {-most - 1, 1, 0, false}, {1, -most - 1, 0, false},
		{most + 1, -most - 1, 0, false}, {math.MaxInt64, 1, 0, false}, {math.MaxInt64, math.MinInt64, 0, false},
		{math.MinInt64, math.MinInt64, 0, false}, {math.MaxInt64, math.MaxInt64, 0, false},
	})
	check("Sub", money.Sub, []row{
		{5, 7, -2, true}, {7, 5, 2, true}, {5, -7, 12, true}, {0, 0, 0, true},
		{most, most, 0, true}, {-most, -most, 0, true}, {0, most, -most, true}, {0, -most, most, true},
		{most, -1, 0, false}, {-most, 1, 0, false}, {most, -most, 0, false}, {-most, most, 0, false}, {1 - most, 1, -most, true},
		{most + 1, 1, 0, false}, {most + 1, most + 1, 0, false}, {1, most + 1, 0, false}, {-1, -most - 1, 0, false},
		{0, math.MinInt64, 0, false}, {-1, math.MinInt64, 0, false}, {-1, math.MaxInt64, 0, false},
		{math.MinInt64, math.MinInt64, 0, false}, {math.MinInt64, 1, 0, false},
	})
	mul := func(a, b int64) (int64, bool) { return money.Mul(a, int(b)) }
	check("Mul", mul, []row{
		{3, 4, 12, true}, {-3, 4, -12, true}, {3, -4, -12, true}, {-3, -4, 12, true}, {5, 0, 0, true}, {0, 5, 0, true},
		{most, 1, most, true}, {most, -1, -most, true}, {-most, -1, most, true}, {most, 2, 0, false}, {-most, 2, 0, false}, {most, 0, 0, true},
		{1, most, most, true}, {-1, most, -most, true}, {1, -most, -most, true}, {1, most + 1, 0, false}, {1, -most - 1, 0, false},
		{1 << 23, 1 << 24, most, true}, {-1 << 24, 1 << 23, -most, true}, {1<<23 + 1, 1 << 24, 0, false}, {1 << 24, -1<<23 - 1, 0, false},
		{0, math.MaxInt64, 0, true}, {0, math.MinInt64, 0, true}, {most + 1, 0, 0, false}, {-most - 1, 0, 0, false}, {math.MinInt64, 0, 0, false},
		{1 << 32, 1 << 32, 0, false}, {1 << 40, 1 << 24, 0, false}, {2, math.MinInt64, 0, false}, {1, math.MinInt64, 0, false}, {-1, math.MinInt64, 0, false},
		{most, 1 << 17, 0, false}, {1 << 46, 1 << 18, 0, false}, {3, math.MaxInt64, 0, false}, {math.MinInt64, -1, 0, false}, {3, 6148914691236517206, 0, false},
		{most + 1, 1, 0, false}, {math.MaxInt64, math.MaxInt64, 0, false}, {11863283, 11863283, 140737483538089, true}, {11863284, 11863284, 0, false},
	})
}

// P1.1, P1.2: what is told is right as whole numbers, and false just where the document says so.
func TestAddSubMulAsWholeNumbers(t *testing.T) {
	ns := numbers()
	for _, a := range ns {
		for _, b := range ns {
			x, y := big.NewInt(a), big.NewInt(b)
			want, is := told(new(big.Int).Add(x, y), a, b)
			if got, ok := money.Add(a, b); got != want || ok != is {
				t.Errorf("Add(%d, %d): %d %v, not %d %v", a, b, got, ok, want, is)
			}
			want, is = told(new(big.Int).Sub(x, y), a, b)
			if got, ok := money.Sub(a, b); got != want || ok != is {
				t.Errorf("Sub(%d, %d): %d %v, not %d %v", a, b, got, ok, want, is)
			}
			n := int(b)
			want, is = told(new(big.Int).Mul(x, big.NewInt(int64(n))), a)
			if got, ok := money.Mul(a, n); got != want || ok != is {
				t.Errorf("Mul(%d, %d): %d %v, not %d %v", a, n, got, ok, want, is)
			}
		}
	}
}

// P1.1: what is divided, by hand.
func TestCeilFloorByHand(t *testing.T) {
	for _, r := range []struct{ a, b, ceil, floor int64 }{
		{7, 2, 4, 3}, {8, 2, 4, 4}, {1, 5, 1, 0}, {4, 5, 1, 0}, {5, 5, 1, 1}, {6, 5, 2, 1}, {0, 5, 0, 0}, {9, 1, 9, 9},
		{-1, 5, 0, 0}, {-7, 2, 0, 0}, {math.MinInt64, 1, 0, 0}, {math.MinInt64, -1, 0, 0}, {math.MinInt64, math.MinInt64, 0, 0},
		{3, 0, 3, 3}, {3, -1, 3, 3}, {3, math.MinInt64, 3, 3}, {-3, -3, 0, 0}, {0, 0, 0, 0},
		{math.MaxInt64, 1, math.MaxInt64, math.MaxInt64}, {math.MaxInt64, 0, math.MaxInt64, math.MaxInt64}, {math.MaxInt64, math.MaxInt64, 1, 1},
		{math.MaxInt64, 2, 1 << 62, 1<<62 - 1}, {math.MaxInt64 - 1, math.MaxInt64, 1, 0}, {1, math.MaxInt64, 1, 0},
		{1 << 40, 3, 366503875926, 366503875925}, {1<<53 + 1, 1, 1<<53 + 1, 1<<53 + 1},
	} {
		if got := money.Ceil(r.a, r.b); got != r.ceil {
			t.Errorf("Ceil(%d, %d): %d, not %d", r.a, r.b, got, r.ceil)
		}
		if got := money.Floor(r.a, r.b); got != r.floor {
			t.Errorf("Floor(%d, %d): %d, not %d", r.a, r.b, got, r.floor)
		}
	}
}

// P1.1: so many times b is enough and one less isn't; so many times b is in a and one more isn't.
func TestCeilFloorAsWholeNumbers(t *testing.T) {
	times := func(n, b int64) *big.Int { return new(big.Int).Mul(big.NewInt(n), big.NewInt(b)) }
	for _, a := range numbers() {
		for _, b := range numbers() {
			x, y := max(a, 0), max(b, 1)
			whole := big.NewInt(x)
			up := money.Ceil(a, b)
			if up < 0 || times(up, y).Cmp(whole) < 0 || up > 0 && times(up-1, y).Cmp(whole) >= 0 {
				t.Errorf("Ceil(%d, %d) is %d", a, b, up)
			}
			down := money.Floor(a, b)
			next := new(big.Int).Add(times(down, y), big.NewInt(y))
			if down < 0 || times(down, y).Cmp(whole) > 0 || next.Cmp(whole) <= 0 {
				t.Errorf("Floor(%d, %d) is %d", a, b, down)
			}
		}
	}
}

// asked tells how many numbers were asked for, and makes no more than these.
func asked(ns []int64, count *int) iter.Seq[int64] {
	return func(yield func(int64) bool) {
		for _, n := range ns {
			*count++
			if !yield(n) {
				return
			}
		}
	}
}

// P1.1: what is added up, and how much of it is asked for.
func TestTotalSum(t *testing.T) {
	for _, r := range []struct {
		ns    []int64
		want  int64
		ok    bool
		asked int
	}{
		{nil, 0, true, 0},
		{[]int64{}, 0, true, 0},
		{[]int64{7}, 7, true, 1},
		{[]int64{0, 0, 0}, 0, true, 3},
		{[]int64{1, 2, -3}, 0, true, 3},
		{[]int64{1, 2, -4, 10}, 9, true, 4},
		{[]int64{most}, most, true, 1},
		{[]int64{-most}, -most, true, 1},
		{[]int64{most / 2, most / 2}, most, true, 2},
		{[]int64{-most, most, most, -most, -most}, -most, true, 5},
		{[]int64{most + 1}, 0, false, 1},
		{[]int64{-most - 1, 1}, 0, false, 1},
		{[]int64{-1, most + 1}, 0, false, 2},
		{[]int64{most, 1, -1}, 0, false, 2},
		{[]int64{-1, most, 1, 1, -5, 6}, 0, false, 4},
		{[]int64{1, 2, -most, -5, 9, 9}, 0, false, 4},
		{[]int64{5, math.MaxInt64, 1, 1}, 0, false, 2},
		{[]int64{math.MinInt64, math.MinInt64}, 0, false, 1},
		{[]int64{1, 2, 3, most}, 0, false, 4},
	} {
		if got, ok := money.Total(r.ns...); got != r.want || ok != r.ok {
			t.Errorf("Total(%v): %d %v, not %d %v", r.ns, got, ok, r.want, r.ok)
		}
		count := 0
		if got, ok := money.Sum(asked(r.ns, &count)); got != r.want || ok != r.ok || count != r.asked {
			t.Errorf("Sum(%v): %d %v of %d, not %d %v of %d", r.ns, got, ok, count, r.want, r.ok, r.asked)
		}
	}
	if got, ok := money.Total(); got != 0 || !ok {
		t.Errorf("Total(): %d %v", got, ok)
	}
}

// P1.1, P1.2: many sums of many numbers are what Add tells, from the first number on.
func TestTotalSumOfMany(t *testing.T) {
	rnd := rand.New(rand.NewPCG(2, 2))
	for range 3000 {
		ns := make([]int64, rnd.IntN(9))
		for i := range ns {
			ns[i] = rnd.Int64N(1<<47+1000) - rnd.Int64N(1<<47+1000)
		}
		whole, ok, need := new(big.Int), true, 0
		for _, n := range ns {
			need++
			whole.Add(whole, big.NewInt(n))
			if ok = isSum(big.NewInt(n)) && isSum(whole); !ok {
				whole.SetInt64(0)
				break
			}
		}
		count := 0
		sum, is := money.Sum(asked(ns, &count))
		total, may := money.Total(ns...)
		if sum != whole.Int64() || is != ok || count != need || total != sum || may != is {
			t.Errorf("%v: Sum %d %v of %d, Total %d %v, not %d %v of %d", ns, sum, is, count, total, may, whole, ok, need)
		}
	}
}

// P1.1: of a long row no more is asked than is needed to tell that it goes too far.
func TestSumOfLongRow(t *testing.T) {
	count := 0
	got, ok := money.Sum(func(yield func(int64) bool) {
		for count = 1; yield(api.MaxMoney) && count < 1000; {
			count++
		}
	})
	if got != 0 || ok || count != 129 {
		t.Errorf("Sum: %d %v of %d", got, ok, count)
	}
}

// P1.1: the amount next to a number.
func TestClamp(t *testing.T) {
	for n, want := range map[int64]int64{
		0: 0, 1: 1, 77: 77, 1<<40 - 1: 1<<40 - 1, 1 << 40: 1 << 40, 1<<40 + 1: 1 << 40, 1 << 50: 1 << 40, math.MaxInt64: 1 << 40,
		-1: 0, -1 << 40: 0, math.MinInt64: 0, 1<<32 + 5: 1<<32 + 5, 1<<62 + 5: 1 << 40,
	} {
		if got := money.Clamp(n); got != want {
			t.Errorf("Clamp(%d): %d, not %d", n, got, want)
		}
	}
	for _, n := range numbers() {
		got := money.Clamp(n)
		if !money.Right(got) || money.Right(n) && got != n || n < 0 && got != 0 || n > 1<<40 && got != 1<<40 {
			t.Errorf("Clamp(%d): %d", n, got)
		}
	}
}

// P2 of the whole: the same arguments are answered the same, whatever was asked between.
func TestAnswersHangOnArguments(t *testing.T) {
	all := func() []int64 {
		var got []int64
		note := func(n int64, ok bool) {
			got = append(got, n)
			if ok {
				got = append(got, 1)
			}
		}
		for _, a := range []int64{0, 5, most, -most, most + 1, math.MinInt64} {
			for _, b := range []int64{1, -1, 3, most, math.MaxInt64} {
				note(money.Add(a, b))
				note(money.Sub(a, b))
				note(money.Mul(a, int(b)))
				note(money.Total(a, b, 1))
				got = append(got, money.Ceil(a, b), money.Floor(a, b), money.Clamp(a))
			}
		}
		return got
	}
	first := all()
	for range 3 {
		if !slices.Equal(all(), first) {
			t.Error("the same arguments are answered otherwise")
		}
	}
}

// The rules that hold everywhere: numbers that are handed in stay, those behind the list's length too.
func TestTotalLeavesItsNumbers(t *testing.T) {
	room := []int64{1, 2, 3, 99, 98}
	if got, ok := money.Total(room[:3]...); got != 6 || !ok {
		t.Errorf("Total: %d %v", got, ok)
	}
	if !slices.Equal(room, []int64{1, 2, 3, 99, 98}) {
		t.Errorf("the numbers are %v", room)
	}
}
