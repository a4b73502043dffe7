// The tests of layer 8. Above each stands the promise that it holds the program to.
package table_test

import (
	"cmp"
	"iter"
	"maps"
	"math"
	"math/rand/v2"
	"runtime"
	"slices"
	"strconv"
	"strings"
	"testing"
	"time"
	"weak"

	"saleroom/table"
)

// pair is a key with its value.
type pair[K, V any] struct {
	Key   K
	Value V
}

// listed is what goes on, as a list.
func listed[K, V any](seq iter.Seq2[K, V]) []pair[K, V] {
	var all []pair[K, V]
	for k, v := range seq {
		all = append(all, pair[K, V]{k, v})
	}
	return all
}

// coming are pairs, one by one.
func coming[K, V any](all []pair[K, V]) iter.Seq2[K, V] {
	return func(yield func(K, V) bool) {
		for _, p := range all {
			if !yield(p.Key, p.Value) {
				return
			}
		}
	}
}

// turnedRound is a list from its end on.
func turnedRound[T any](all []T) []T {
	all = slices.Clone(all)
	slices.Reverse(all)
	return all
}

// model is a table as the document tells it: a list in the order of the keys.
type model[K cmp.Ordered, V comparable] []pair[K, V]

func (m model[K, V]) find(k K) (int, bool) {
	for i, p := range m {
		if p.Key >= k {
			return i, p.Key == k
		}
	}
	return len(m), false
}

func (m *model[K, V]) put(k K, v V) bool {
	i, is := m.find(k)
	if is {
		(*m)[i].Value = v
		return false
	}
	*m = slices.Insert(*m, i, pair[K, V]{k, v})
	return true
}

func (m *model[K, V]) drop(k K) bool {
	i, is := m.find(k)
	if is {
		*m = slices.Delete(*m, i, i+1)
	}
	return is
}

// keyAt is the key at a place, if there is one.
func (m model[K, V]) keyAt(i int) (k K, ok bool) {
	if i < 0 || i >= len(m) {
		return k, false
	}
	return m[i].Key, true
}

// checkAsk: a call answers a thing and whether it is there, as it should.
func checkAsk[T comparable](t *testing.T, what string, got T, ok bool, want T, is bool) {
	t.Helper()
	if got != want || ok != is {
		t.Errorf("%s: %v, %v; not %v, %v", what, got, ok, want, is)
	}
}

// checkSeq: what goes on is what it should be, each time that it is gone over, and up to any place.
func checkSeq[K cmp.Ordered, V comparable](t *testing.T, what string, seq iter.Seq2[K, V], want []pair[K, V]) {
	t.Helper()
	for _, most := range []int{len(want) + 1, 1, len(want), len(want) / 2, len(want) + 1} {
		var got []pair[K, V]
		over := false
		seq(func(k K, v V) bool {
			if over {
				t.Errorf("%s: goes on when no more is asked for", what)
			}
			got = append(got, pair[K, V]{k, v})
			over = len(got) >= most
			return !over
		})
		if !slices.Equal(got, want[:min(len(want), max(most, 1))]) {
			t.Errorf("%s: the first %d are %v, of %v", what, most, got, want)
		}
	}
}

// checkTable: a table answers all that asks as its model, for these keys.
func checkTable[K cmp.Ordered, V comparable](t *testing.T, x *table.Table[K, V], m model[K, V], keys []K) {
	t.Helper()
	var none V
	if x.Len() != len(m) {
		t.Errorf("there are %d, not %d", x.Len(), len(m))
	}
	checkSeq(t, "All", x.All(), m)
	checkSeq(t, "Back", x.Back(), turnedRound(m))
	least, is := m.keyAt(0)
	got, ok := x.Least()
	checkAsk(t, "Least", got, ok, least, is)
	most, is := m.keyAt(len(m) - 1)
	got, ok = x.Most()
	checkAsk(t, "Most", got, ok, most, is)
	for _, k := range keys {
		i, is := m.find(k)
		want := none
		if is {
			want = m[i].Value
		}
		v, ok := x.Get(k)
		checkAsk(t, "Get", v, ok, want, is)
		below, is := m.keyAt(i - 1)
		got, ok := x.Below(k)
		checkAsk(t, "Below", got, ok, below, is)
		checkSeq(t, "From", x.From(k), m[i:])
		for _, high := range keys {
			end, _ := m.find(high)
			checkSeq(t, "Between", x.Between(k, high), m[i:max(i, end)])
		}
	}
}

// soon fails a test in which a call doesn't end.
func soon(t *testing.T, what string, do func()) {
	t.Helper()
	done := make(chan struct{})
	go func() {
		defer close(done)
		do()
	}()
	select {
	case <-done:
	case <-time.After(30 * time.Second):
		t.Fatalf("%s doesn't end", what)
	}
}

// atRandom holds tables of some keys against their models, in an order of calls at random.
func atRandom[K cmp.Ordered](t *testing.T, keys []K) {
	t.Helper()
	rnd := rand.New(rand.NewPCG(uint64(len(keys)), 1))
	for range 12 {
		var x table.Table[K, int]
		var m model[K, int]
		puts := 1 + rnd.IntN(9)
		for step := range 60 {
			k := keys[rnd.IntN(len(keys))]
			switch n := rnd.IntN(10); {
			case n < puts:
				checkAsk(t, "Put", x.Put(k, step), true, m.put(k, step), true)
			case n == 9 && rnd.IntN(5) == 0:
				x.Clear()
				m = nil
			default:
				checkAsk(t, "Drop", x.Drop(k), true, m.drop(k), true)
			}
			if x.Len() != len(m) {
				t.Fatalf("there are %d, not %d", x.Len(), len(m))
			}
			if step%10 == 9 {
				asked := []K{keys[rnd.IntN(len(keys))], keys[rnd.IntN(len(keys))], keys[0], keys[len(keys)-1], k}
				checkTable(t, &x, m, asked)
			}
		}
		if t.Failed() {
			return
		}
	}
}

// P8.1: the document's example.
func TestExample(t *testing.T) {
	var x table.Table[int, string]
	for _, k := range []int{3, 1, 2} {
		if !x.Put(k, strconv.Itoa(k)) {
			t.Errorf("%d was there", k)
		}
	}
	checkSeq(t, "All", x.All(), []pair[int, string]{{1, "1"}, {2, "2"}, {3, "3"}})
	k, ok := x.Below(3)
	checkAsk(t, "Below 3", k, ok, 2, true)
}

// P8.1: the zero table is empty; what isn't there is the zero one and false.
func TestEmpty(t *testing.T) {
	var zero table.Table[string, int]
	cleared := table.Of(coming([]pair[string, int]{{"a", 1}, {"b", 2}}))
	cleared.Clear()
	dropped := table.Of(coming([]pair[string, int]{{"a", 1}, {"b", 2}}))
	dropped.Drop("a")
	dropped.Drop("b")
	both := func(string, int, int) int { return 7 }
	for _, x := range []*table.Table[string, int]{
		&zero, cleared, dropped, new(table.Table[string, int]), zero.Clone(), cleared.Clone(), table.Of(zero.All()), table.Of(dropped.Back()),
		table.Map(&zero, func(string, int) int { return 7 }), table.Merge(&zero, cleared, both),
		table.Of[string, int](nil), table.Map(nil, func(string, bool) int { return 7 }), table.Merge(nil, nil, both),
	} {
		if x == nil {
			t.Fatal("there is no table")
		}
		checkTable(t, x, nil, []string{"", "a", "b", "z"})
		if x.Drop("") || x.Drop("a") || x.Len() != 0 {
			t.Error("something was dropped")
		}
		x.Clear()
		if !x.Put("", 0) || x.Put("", 0) || x.Len() != 1 {
			t.Error("the first one is put otherwise")
		}
		checkTable(t, x, model[string, int]{{"", 0}}, []string{"", "a"})
	}
}

// P8.1: a value stands in the place of the one that there is; a zero key and a zero value are such as others.
func TestPutGetDrop(t *testing.T) {
	var x table.Table[int, string]
	for i, r := range []struct {
		call  string
		key   int
		value string
		want  bool
		len   int
	}{
		{"drop", 0, "", false, 0}, {"put", 0, "", true, 1}, {"get", 0, "", true, 1}, {"put", 0, "a", false, 1}, {"get", 0, "a", true, 1},
		{"get", 1, "", false, 1}, {"put", 1, "b", true, 2}, {"put", -1, "c", true, 3}, {"put", 1, "", false, 3}, {"get", 1, "", true, 3}, {"get", -1, "c", true, 3},
		{"drop", 0, "", true, 2}, {"drop", 0, "", false, 2}, {"get", 0, "", false, 2}, {"put", 0, "d", true, 3}, {"get", 0, "d", true, 3},
		{"drop", math.MaxInt, "", false, 3}, {"put", math.MaxInt, "e", true, 4}, {"put", math.MinInt, "f", true, 5}, {"get", math.MaxInt, "e", true, 5}, {"get", math.MinInt, "f", true, 5},
		{"get", math.MaxInt - 1, "", false, 5}, {"drop", math.MinInt, "", true, 4}, {"drop", 1, "", true, 3}, {"drop", -1, "", true, 2}, {"drop", 0, "", true, 1}, {"drop", math.MaxInt, "", true, 0},
	} {
		var ok bool
		switch r.call {
		case "put":
			ok = x.Put(r.key, r.value)
		case "drop":
			ok = x.Drop(r.key)
		case "get":
			var got string
			if got, ok = x.Get(r.key); got != r.value {
				t.Errorf("%d: Get of %d is %q, not %q", i, r.key, got, r.value)
			}
		}
		if ok != r.want || x.Len() != r.len {
			t.Errorf("%d: %s of %d is %v, and there are %d", i, r.call, r.key, ok, x.Len())
		}
	}
}

// P8.1: neighbours, pieces and their ends, by hand.
func TestNeighbours(t *testing.T) {
	var x table.Table[int, int]
	for _, k := range []int{40, 10, 30, 20} {
		x.Put(k, k/10)
	}
	all := []pair[int, int]{{10, 1}, {20, 2}, {30, 3}, {40, 4}}
	for _, r := range []struct {
		key, below int
		is         bool
		from       int
	}{
		{math.MinInt, 0, false, 0}, {9, 0, false, 0}, {10, 0, false, 0}, {11, 10, true, 1}, {20, 10, true, 1}, {25, 20, true, 2}, {39, 30, true, 3}, {40, 30, true, 3}, {41, 40, true, 4}, {math.MaxInt, 40, true, 4},
	} {
		got, ok := x.Below(r.key)
		checkAsk(t, "Below "+strconv.Itoa(r.key), got, ok, r.below, r.is)
		checkSeq(t, "From "+strconv.Itoa(r.key), x.From(r.key), all[r.from:])
	}
	for _, r := range []struct{ low, high, first, end int }{
		{10, 41, 0, 4}, {10, 40, 0, 3}, {11, 40, 1, 3}, {20, 30, 1, 2}, {20, 31, 1, 3}, {20, 20, 0, 0}, {20, 21, 1, 2}, {21, 30, 0, 0}, {21, 22, 0, 0}, {30, 20, 0, 0}, {40, 10, 0, 0},
		{math.MinInt, math.MaxInt, 0, 4}, {math.MinInt, 10, 0, 0}, {math.MinInt, 11, 0, 1}, {40, math.MaxInt, 3, 4}, {41, math.MaxInt, 0, 0}, {math.MaxInt, math.MinInt, 0, 0},
	} {
		checkSeq(t, "Between "+strconv.Itoa(r.low)+", "+strconv.Itoa(r.high), x.Between(r.low, r.high), all[r.first:r.end])
	}
}

// P8.1, P1 of the whole: every order of calls, for keys that are numbers or texts.
func TestCallsAtRandom(t *testing.T) {
	type seat int
	type name string
	var ints []int
	var bytes []uint8
	var words []string
	var seats []seat
	var names []name
	for i := range 40 {
		ints = append(ints, i-20)
		bytes = append(bytes, uint8(i*13))
		words = append(words, strings.Repeat(strconv.Itoa(i%7), i/7), strconv.Itoa(i))
		seats = append(seats, seat(i*i-50))
		names = append(names, name(strings.Repeat("\x00", i%3)+"\xff"[:i%2]+strconv.Itoa(i)))
	}
	atRandom(t, []int{0, 1, 2})
	atRandom(t, ints)
	atRandom(t, bytes)
	atRandom(t, words)
	atRandom(t, seats)
	atRandom(t, names)
	atRandom(t, []int64{math.MinInt64, math.MinInt64 + 1, -1, 0, 1, 1 << 31, 1 << 32, math.MaxInt64 - 1, math.MaxInt64})
	atRandom(t, []uint64{0, 1, 1<<63 - 1, 1 << 63, 1<<63 + 1, math.MaxUint64 - 1, math.MaxUint64})
	atRandom(t, []int8{-128, -127, -1, 0, 1, 126, 127})
	atRandom(t, []float64{math.Inf(-1), -math.MaxFloat64, -1, -math.SmallestNonzeroFloat64, 0, math.SmallestNonzeroFloat64, 0.1, 1, math.MaxFloat64, math.Inf(1)})
	atRandom(t, []float32{-1.5, 0, 1.5, float32(math.Inf(1))})
	atRandom(t, []uintptr{0, 1, 2, 3, 4, 5})
	atRandom(t, []string{"", "\x00", "\x00\x00", "a", "a\x00", "aa", "ab", "b", "ä", "é", "\xff", "\xff\xff", "Z", "10", "9"})
}

// P8.1: the two noughts of a float are the same key.
func TestNoughts(t *testing.T) {
	minus := math.Copysign(0, -1)
	var x table.Table[float64, string]
	if !x.Put(0, "a") || x.Put(minus, "b") || x.Len() != 1 {
		t.Error("a nought is put twice")
	}
	for _, k := range []float64{0, minus} {
		v, ok := x.Get(k)
		checkAsk(t, "Get of a nought", v, ok, "b", true)
		_, ok = x.Below(k)
		checkAsk(t, "Below a nought", ok, true, false, true)
		checkSeq(t, "From a nought", x.From(k), []pair[float64, string]{{0, "b"}})
	}
	if !x.Drop(minus) || x.Drop(0) {
		t.Error("a nought is dropped otherwise")
	}
}

// P1 of the whole: of a key that isn't the same as itself nothing is promised but that the calls end and don't panic.
func TestKeysThatArentThemselves(t *testing.T) {
	soon(t, "a call of such a key", func() {
		nan := math.NaN()
		var x, y table.Table[float64, int]
		rnd := rand.New(rand.NewPCG(2, 2))
		for i := range 500 {
			k := float64(rnd.IntN(20))
			if rnd.IntN(3) == 0 {
				k = nan
			}
			switch rnd.IntN(3) {
			case 0:
				x.Put(k, i)
			case 1:
				y.Put(k, i)
			default:
				x.Drop(k)
			}
			x.Get(k)
			x.Below(k)
			x.Least()
			x.Most()
			for _, seq := range []iter.Seq2[float64, int]{x.All(), x.Back(), x.From(k), x.Between(k, nan), x.Between(nan, k)} {
				listed(seq)
			}
			table.Merge(&x, &y, func(_ float64, a, b int) int { return a + b })
			table.Map(&y, func(k float64, v int) string { return "" })
			table.Of(x.Back())
		}
	})
}

// P8.1: values of any type are kept as they are.
func TestValuesOfAnyType(t *testing.T) {
	n := 5
	list := []int{1, 2}
	var pointers table.Table[int, *int]
	var lists table.Table[int, []int]
	var things table.Table[int, any]
	var calls table.Table[int, func() int]
	var nothing table.Table[int, struct{}]
	pointers.Put(1, &n)
	pointers.Put(2, nil)
	lists.Put(1, list)
	lists.Put(2, nil)
	things.Put(1, n)
	things.Put(2, nil)
	things.Put(3, list)
	calls.Put(1, func() int { return n })
	p, ok := pointers.Get(1)
	checkAsk(t, "Get of a pointer", p, ok, &n, true)
	p, ok = pointers.Get(2)
	checkAsk(t, "Get of nil", p, ok, nil, true)
	p, ok = pointers.Get(3)
	checkAsk(t, "Get of none", p, ok, nil, false)
	if l, ok := lists.Get(1); !ok || &l[0] != &list[0] {
		t.Error("a list is kept as another one")
	}
	if l, ok := lists.Get(2); !ok || l != nil {
		t.Error("no list is kept as one")
	}
	a, ok := things.Get(1)
	checkAsk(t, "Get of a thing", a, ok, any(5), true)
	a, ok = things.Get(2)
	checkAsk(t, "Get of no thing", a, ok, nil, true)
	if f, ok := calls.Get(1); !ok || f() != 5 {
		t.Error("a call is kept as another one")
	}
	if _, ok := nothing.Get(1); ok || !nothing.Put(1, struct{}{}) || nothing.Put(1, struct{}{}) {
		t.Error("nothing is kept as something")
	}
}

// P8.1: a great table, put and dropped in orders that rise, fall and neither; each call is quick.
func TestGreatTables(t *testing.T) {
	const n = 1 << 16
	orders := map[string]func(i int) int{
		"rising": func(i int) int { return i }, "falling": func(i int) int { return n - 1 - i },
		"from both ends": func(i int) int { return i/2 + i%2*(n-1-2*(i/2)) }, "mixed": func(i int) int { return i * 40503 % n },
	}
	for name, put := range orders {
		soon(t, "a great table, "+name, func() {
			var x table.Table[int, int]
			for i := range n {
				x.Put(put(i), i)
			}
			if x.Len() != n {
				t.Errorf("%s: there are %d", name, x.Len())
			}
			for i := range n {
				k, ok := x.Below(i)
				checkAsk(t, "Below", k, ok, max(i-1, 0), i > 0)
				for k := range x.From(i) { // makes no more than the first one
					checkAsk(t, "From", k, true, i, true)
					break
				}
				for range x.All() {
					break
				}
				x.Clone().Drop(i)
			}
			for i := range n {
				if !x.Drop(put(n-1-i)) || x.Len() != n-1-i {
					t.Errorf("%s: %d isn't dropped", name, put(n-1-i))
					return
				}
			}
		})
	}
}

// P8.2: a clone, and clones of it, go their own ways, whatever is put into any of them and dropped.
func TestClonesAtRandom(t *testing.T) {
	rnd := rand.New(rand.NewPCG(3, 3))
	for range 30 {
		xs := []*table.Table[int, int]{{}}
		ms := []model[int, int]{nil}
		for step := range 200 {
			at, k := rnd.IntN(len(xs)), rnd.IntN(20)
			switch n := rnd.IntN(20); {
			case n == 0 && len(xs) < 8:
				xs, ms = append(xs, xs[at].Clone()), append(ms, slices.Clone(ms[at]))
			case n == 1 && rnd.IntN(3) == 0:
				xs[at].Clear()
				ms[at] = nil
			case n < 12:
				checkAsk(t, "Put", xs[at].Put(k, step), true, ms[at].put(k, step), true)
			default:
				checkAsk(t, "Drop", xs[at].Drop(k), true, ms[at].drop(k), true)
			}
		}
		for i, x := range xs {
			checkTable(t, x, ms[i], []int{-1, 0, 7, 19, 20})
		}
		if t.Failed() {
			return
		}
	}
}

// P8.2 and the rules that hold everywhere: what is made of tables goes its own way, and they stay.
func TestMadeTablesGoTheirOwnWays(t *testing.T) {
	whole := func() model[int, string] { return model[int, string]{{1, "a"}, {2, "b"}, {5, "c"}} }
	first := func(_ int, x, _ string) string { return x }
	same := func(_ int, v string) string { return v }
	turns := map[string]func(x *table.Table[int, string]){
		"put":   func(x *table.Table[int, string]) { x.Put(2, "z"); x.Put(3, "y"); x.Put(0, "x") },
		"drop":  func(x *table.Table[int, string]) { x.Drop(1); x.Drop(5) },
		"clear": func(x *table.Table[int, string]) { x.Clear() },
	}
	for name, turn := range turns {
		x := table.Of(coming(whole()))
		var none table.Table[int, string]
		made := []*table.Table[int, string]{x.Clone(), table.Of(x.All()), table.Map(x, same), table.Merge(x, &none, first), table.Merge(&none, x, first), table.Merge(x, x, first)}
		for i, y := range made {
			turn(y)
			checkTable(t, x, whole(), []int{0, 1, 2, 5})
			for j, z := range made[i+1:] {
				if !slices.Equal(listed(z.All()), whole()) {
					t.Errorf("%s in the table %d is seen in the table %d", name, i, i+1+j)
				}
			}
		}
		y := x.Clone()
		turn(x)
		checkTable(t, y, whole(), []int{0, 1, 2, 5})
		if none.Len() != 0 {
			t.Error("the empty one isn't any more")
		}
	}
}

// turns are all that can be done to a table of the keys 0 to 9 while something goes over it.
func turns() map[string]func(x *table.Table[int, int], k int) {
	return map[string]func(x *table.Table[int, int], k int){
		"its key is dropped":              func(x *table.Table[int, int], k int) { x.Drop(k) },
		"the next key is dropped":         func(x *table.Table[int, int], k int) { x.Drop(k + 1) },
		"the key ahead is dropped":        func(x *table.Table[int, int], k int) { x.Drop(k - 1) },
		"others are dropped":              func(x *table.Table[int, int], k int) { x.Drop(k + 2); x.Drop(k - 2); x.Drop(9 - k) },
		"all are dropped":                 func(x *table.Table[int, int], k int) { x.Clear() },
		"its key is put":                  func(x *table.Table[int, int], k int) { x.Put(k, 99) },
		"the others are put":              func(x *table.Table[int, int], k int) { x.Put(k+1, 99); x.Put(k-1, 99); x.Put(9-k, 99) },
		"greater ones are put":            func(x *table.Table[int, int], k int) { x.Put(10+k, 99); x.Put(100-k, 99) },
		"lower ones are put":              func(x *table.Table[int, int], k int) { x.Put(-1-k, 99); x.Put(-100+k, 99) },
		"all are dropped, others are put": func(x *table.Table[int, int], k int) { x.Clear(); x.Put(k+1, 99); x.Put(k-1, 98); x.Put(5, 97) },
	}
}

// P8.3: what is put or dropped while something goes on isn't seen by it, but it is there behind that.
func TestGoesOverWhatThereWas(t *testing.T) {
	var was model[int, int]
	for k := range 10 {
		was = append(was, pair[int, int]{k, 10 * k})
	}
	for name, turn := range turns() {
		for what, r := range map[string]struct {
			seq  func(x *table.Table[int, int]) iter.Seq2[int, int]
			want []pair[int, int]
		}{
			"All":     {func(x *table.Table[int, int]) iter.Seq2[int, int] { return x.All() }, was},
			"Back":    {func(x *table.Table[int, int]) iter.Seq2[int, int] { return x.Back() }, turnedRound(was)},
			"From":    {func(x *table.Table[int, int]) iter.Seq2[int, int] { return x.From(3) }, was[3:]},
			"Between": {func(x *table.Table[int, int]) iter.Seq2[int, int] { return x.Between(2, 8) }, was[2:8]},
		} {
			x, y := table.Of(coming(was)), table.Of(coming(was))
			var got []pair[int, int]
			for k, v := range r.seq(x) {
				got = append(got, pair[int, int]{k, v})
				turn(x, k)
			}
			if !slices.Equal(got, r.want) {
				t.Errorf("%s, and %s: %v, not %v", what, name, got, r.want)
			}
			for _, p := range r.want {
				turn(y, p.Key)
			}
			if got, want := listed(x.All()), listed(y.All()); !slices.Equal(got, want) {
				t.Errorf("behind %s, and %s: %v, not %v", what, name, got, want)
			}
		}
	}
}

// P8.3: what goes on within itself, each has what there was when it began.
func TestGoesOnWithinItself(t *testing.T) {
	x := table.Of(coming([]pair[int, int]{{1, 1}, {2, 2}}))
	seq := x.All()
	var got []int
	for k := range seq {
		x.Put(10*k, 0)
		for j := range seq {
			got = append(got, j)
		}
		x.Drop(k)
	}
	if want := []int{1, 2, 10, 2, 10, 20}; !slices.Equal(got, want) {
		t.Errorf("%v, not %v", got, want)
	}
	if got := slices.Collect(maps.Keys(maps.Collect(seq))); len(got) != 2 || !slices.Contains(got, 10) || !slices.Contains(got, 20) {
		t.Errorf("behind all: %v", got)
	}
}

// P8.3: what is asked for piece by piece goes over what there was, too.
func TestGoesOnPieceByPiece(t *testing.T) {
	x := table.Of(coming([]pair[string, int]{{"a", 1}, {"b", 2}, {"c", 3}}))
	next, stop := iter.Pull2(x.All())
	defer stop()
	for i, want := range []string{"a", "b", "c"} {
		k, v, ok := next()
		checkAsk(t, "the next one", k, ok, want, true)
		checkAsk(t, "its value", v, ok, i+1, true)
		x.Clear()
		x.Put("bb", 7)
	}
	if _, _, ok := next(); ok {
		t.Error("it goes on")
	}
}

// P8.1: of all that comes, of one key the last value counts; all of it is asked for once.
func TestOf(t *testing.T) {
	rnd := rand.New(rand.NewPCG(4, 4))
	for n := range 60 {
		var all []pair[int, int]
		var m model[int, int]
		for i := range n {
			k := rnd.IntN(1 + n/2)
			all = append(all, pair[int, int]{k, i})
			m.put(k, i)
		}
		asked := 0
		x := table.Of(func(yield func(int, int) bool) {
			for k, v := range coming(all) {
				asked++
				if !yield(k, v) {
					return
				}
			}
		})
		checkTable(t, x, m, []int{0, n / 4, n})
		if asked != n {
			t.Errorf("%d of %d are asked for", asked, n)
		}
	}
	x := table.Of(coming([]pair[int, int]{{1, 1}, {2, 2}}))
	if got := table.Of(x.Back()); !slices.Equal(listed(got.All()), listed(x.All())) {
		t.Errorf("of what falls: %v", listed(got.All()))
	}
	if got := table.Of(maps.All(map[string]bool{"b": true, "a": false})); !slices.Equal(listed(got.All()), []pair[string, bool]{{"a", false}, {"b", true}}) {
		t.Errorf("of a map: %v", listed(got.All()))
	}
}

// P8.1: of the same keys, of what turn makes of each, rising; each is turned once.
func TestMap(t *testing.T) {
	rnd := rand.New(rand.NewPCG(5, 5))
	for n := range 40 {
		var m model[int, int]
		var want model[int, string]
		for i := range n {
			m.put(rnd.IntN(2*n), i)
		}
		x := table.Of(coming(m))
		for _, p := range m {
			want.put(p.Key, strconv.Itoa(p.Key)+":"+strconv.Itoa(p.Value))
		}
		var order []pair[int, int]
		got := table.Map(x, func(k, v int) string {
			order = append(order, pair[int, int]{k, v})
			return strconv.Itoa(k) + ":" + strconv.Itoa(v)
		})
		checkTable(t, got, want, []int{0, n, 2 * n})
		checkTable(t, x, m, []int{0, n, 2 * n})
		if !slices.Equal(order, m) {
			t.Errorf("turned in the order %v, not %v", order, m)
		}
	}
}

// P8.1, P8.3: a turn that turns the table itself isn't seen.
func TestMapOfWhatIsTurned(t *testing.T) {
	x := table.Of(coming([]pair[int, int]{{1, 1}, {2, 2}, {3, 3}}))
	got := table.Map(x, func(k, v int) int {
		x.Drop(k + 1)
		x.Put(k+10, v)
		return -v
	})
	checkTable(t, got, model[int, int]{{1, -1}, {2, -2}, {3, -3}}, []int{1, 2, 11})
}

// P8.1: the keys of both; of those that both have, what both makes of the value of a and that of b.
func TestMerge(t *testing.T) {
	rnd := rand.New(rand.NewPCG(6, 6))
	for n := range 60 {
		var a, b, want model[int, string]
		for i := range n {
			if rnd.IntN(4) > 0 {
				a.put(rnd.IntN(n), "a"+strconv.Itoa(i))
			}
			if rnd.IntN(4) > 0 {
				b.put(rnd.IntN(n), "b"+strconv.Itoa(i))
			}
		}
		var shared []int
		want = slices.Clone(a)
		for _, p := range b {
			i, is := a.find(p.Key)
			if is {
				want.put(p.Key, strconv.Itoa(p.Key)+a[i].Value+p.Value)
				shared = append(shared, p.Key)
			} else {
				want.put(p.Key, p.Value)
			}
		}
		x, y := table.Of(coming(a)), table.Of(coming(b))
		var asked []int
		got := table.Merge(x, y, func(k int, v, w string) string {
			asked = append(asked, k)
			return strconv.Itoa(k) + v + w
		})
		checkTable(t, got, want, []int{0, n / 2, n})
		checkTable(t, x, a, []int{0, n / 2, n})
		checkTable(t, y, b, []int{0, n / 2, n})
		if slices.Sort(asked); !slices.Equal(asked, shared) {
			t.Errorf("both is asked of %v, not %v", asked, shared)
		}
	}
}

// P8.1, P1 of the whole: tables merged with themselves, with none, and with such as are turned on the way.
func TestMergeOfOthers(t *testing.T) {
	add := func(_ int, v, w int) int { return 10*v + w }
	whole := model[int, int]{{1, 1}, {2, 2}, {3, 3}}
	x := table.Of(coming(whole))
	checkTable(t, table.Merge(x, x, add), model[int, int]{{1, 11}, {2, 22}, {3, 33}}, []int{1, 2, 3})
	checkTable(t, table.Merge(x, nil, add), whole, []int{1, 2, 3})
	checkTable(t, table.Merge(nil, x, add), whole, []int{1, 2, 3})
	checkTable(t, x, whole, []int{1, 2, 3})
	y := table.Of(coming([]pair[int, int]{{0, 5}, {2, 6}, {3, 7}}))
	got := table.Merge(x, y, func(k, v, w int) int {
		x.Put(k+1, 99)
		y.Drop(k + 1)
		return 10*v + w
	})
	checkTable(t, got, model[int, int]{{0, 5}, {1, 1}, {2, 26}, {3, 37}}, []int{0, 1, 2, 3, 4})
	z := table.Of(coming(whole))
	got = table.Merge(z, z, func(k, v, w int) int {
		z.Clear()
		z.Put(k, 99)
		return 10*v + w
	})
	checkTable(t, got, model[int, int]{{1, 11}, {2, 22}, {3, 33}}, []int{1, 2, 3})
}

// fill puts values that are held by the table alone, and tells weakly where they are.
func fill(x *table.Table[int, *[64]int], n int) []weak.Pointer[[64]int] {
	var all []weak.Pointer[[64]int]
	for k := range n {
		v := new([64]int)
		x.Put(k, v)
		all = append(all, weak.Make(v))
	}
	return all
}

// P8.1: what is dropped, cleared, or had another value put in its place, is kept no more.
func TestIsKeptNoMore(t *testing.T) {
	const n = 100
	var x table.Table[int, *[64]int]
	all := fill(&x, n)
	for k := range n {
		switch k % 3 {
		case 0:
			x.Drop(k)
		case 1:
			x.Put(k, nil)
		}
	}
	runtime.GC()
	for k, v := range all {
		if gone := v.Value() == nil; gone != (k%3 != 2) {
			t.Errorf("the value of %d is kept: %v", k, !gone)
		}
	}
	if x.Len() != n-34 {
		t.Errorf("there are %d", x.Len())
	}
	x.Clear()
	runtime.GC()
	for k, v := range all {
		if v.Value() != nil {
			t.Errorf("the value of %d is kept behind a Clear", k)
		}
	}
	if x.Len() != 0 {
		t.Errorf("there are %d", x.Len())
	}
}

// P2 of the whole: the same calls are answered the same.
func TestAnswersHangOnCalls(t *testing.T) {
	told := func() []string {
		rnd := rand.New(rand.NewPCG(7, 7))
		var x table.Table[int, int]
		var got []string
		for i := range 300 {
			k := rnd.IntN(50)
			got = append(got, strconv.FormatBool(x.Put(k, i)), strconv.FormatBool(x.Drop(rnd.IntN(50))))
			below, _ := x.Below(k)
			got = append(got, strconv.Itoa(below))
		}
		for k, v := range x.All() {
			got = append(got, strconv.Itoa(k), strconv.Itoa(v))
		}
		return got
	}
	first := told()
	for range 3 {
		if !slices.Equal(told(), first) {
			t.Error("the same calls are answered otherwise")
		}
	}
}
