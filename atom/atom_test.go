// The tests of layer 9. Above each stands the promise that it holds the program to.
package atom_test

import (
	"math"
	"math/rand/v2"
	"slices"
	"testing"
	"time"

	"saleroom/api"
	"saleroom/atom"
)

const (
	all uint64 = math.MaxUint64 // the set of all items
	big int64  = 1 << 40        // the greatest value
)

// atoms are atoms told as sets and values in turn.
func atoms(numbers ...int64) []api.Atom {
	var as []api.Atom
	for i := 0; i < len(numbers); i += 2 {
		as = append(as, api.Atom{Set: uint64(numbers[i]), Value: numbers[i+1]})
	}
	return as
}

// countOf is how many items a set has, found bit by bit.
func countOf(s uint64) int {
	n := 0
	for ; s > 0; s /= 2 {
		n += int(s % 2)
	}
	return n
}

// orderOf is layer 2's order of sets.
func orderOf(a, b uint64) int {
	switch x, y := countOf(a), countOf(b); {
	case x < y || x == y && a < b:
		return -1
	case a != b:
		return 1
	}
	return 0
}

// liesWithin tells whether all items of a are in b.
func liesWithin(a, b uint64) bool { return a|b == b }

// isRight tells whether an atom is right, as the document tells it.
func isRight(a api.Atom) bool { return a.Set != 0 && a.Value >= 1 && a.Value <= big }

// rightOf are the right atoms whose set lies within s, in order.
func rightOf(as []api.Atom, s uint64) []api.Atom {
	var got []api.Atom
	for _, a := range as {
		if isRight(a) && liesWithin(a.Set, s) {
			got = append(got, a)
		}
	}
	return got
}

// valueOf is the greatest value of the right atoms within s.
func valueOf(as []api.Atom, s uint64) int64 {
	var most int64
	for _, a := range rightOf(as, s) {
		if a.Value > most {
			most = a.Value
		}
	}
	return most
}

// unionOf are all items of right atoms.
func unionOf(as []api.Atom) uint64 {
	var u uint64
	for _, a := range rightOf(as, all) {
		u |= a.Set
	}
	return u
}

// addsOf is what each item adds, told as items and values in turn.
func addsOf(as []api.Atom, s uint64) []int64 {
	var got []int64
	for item := range 64 {
		if one := uint64(1) << item; s&one == 0 && unionOf(as)&one != 0 {
			got = append(got, int64(item), valueOf(as, s|one)-valueOf(as, s))
		}
	}
	return got
}

// normalOf is the normal list, step by step as the document tells it.
func normalOf(as []api.Atom) []api.Atom {
	most := map[uint64]int64{}
	for _, a := range rightOf(as, all) {
		most[a.Set] = max(most[a.Set], a.Value)
	}
	var got []api.Atom
	for s, v := range most {
		beaten := false
		for other, w := range most {
			beaten = beaten || other != s && liesWithin(other, s) && w >= v
		}
		if !beaten {
			got = append(got, api.Atom{Set: s, Value: v})
		}
	}
	slices.SortFunc(got, func(a, b api.Atom) int { return orderOf(a.Set, b.Set) })
	return got
}

// isNormalOf tells whether a list is normal, by the document's word.
func isNormalOf(as []api.Atom) bool {
	for i, a := range as {
		if !isRight(a) || i > 0 && orderOf(as[i-1].Set, a.Set) >= 0 {
			return false
		}
		for j, b := range as {
			if i != j && liesWithin(a.Set, b.Set) && a.Value >= b.Value {
				return false
			}
		}
	}
	return true
}

// oneOf is an atom at random: of few items or of many, of few values or of many, right or not.
func oneOf(rnd *rand.Rand, items int, most int64) api.Atom {
	a := api.Atom{Set: rnd.Uint64() >> (64 - items), Value: 1 + rnd.Int64N(most)}
	if rnd.IntN(3) == 0 {
		a.Set &= rnd.Uint64()
	}
	switch rnd.IntN(20) {
	case 0:
		a.Set = 0
	case 1:
		a.Value = []int64{0, -1, math.MinInt64, -big, big + 1, math.MaxInt64}[rnd.IntN(6)]
	case 2:
		a.Value = []int64{1, big - 1, big}[rnd.IntN(3)]
	}
	return a
}

// lists are lists at random, by hand, and at their ends.
func lists() [][]api.Atom {
	ls := [][]api.Atom{nil, {}, {{}}, make([]api.Atom, 100), atoms(1, 1), atoms(1, 0), atoms(0, 1), atoms(-1, big), atoms(1, big+1), atoms(1, -1), atoms(1, math.MaxInt64, 1, math.MinInt64)}
	rnd := rand.New(rand.NewPCG(1, 1))
	for n := range 400 {
		var as []api.Atom
		items, most := 1+rnd.IntN(6), int64(1+rnd.IntN(12))
		if n%5 == 0 {
			items, most = 1+rnd.IntN(64), big
		}
		for range rnd.IntN(1 + n/8) {
			as = append(as, oneOf(rnd, items, most))
		}
		ls = append(ls, as)
	}
	return ls
}

// setsFor are sets to hold against a list: those of its atoms, with an item more and less, others, and the ends.
func setsFor(rnd *rand.Rand, as []api.Atom) []uint64 {
	ss := []uint64{0, 1, 2, 3, all, all - 1, all >> 1, 1 << 63, rnd.Uint64(), rnd.Uint64() % 64, rnd.Uint64() % 64}
	for range min(len(as), 6) {
		s := as[rnd.IntN(len(as))].Set
		ss = append(ss, s, s&(s-1), s|1<<rnd.IntN(64), s|as[rnd.IntN(len(as))].Set, ^s)
	}
	return ss
}

// checkList: a list is what it should be.
func checkList(t *testing.T, what string, got, want []api.Atom) {
	t.Helper()
	if !slices.Equal(got, want) {
		t.Errorf("%s: %v, not %v", what, got, want)
	}
}

// soon fails a test in which a call doesn't end.
func soon(t *testing.T, what string, do func()) {
	t.Helper()
	done := make(chan struct{})
	go func() {
		defer close(done)
		do()
	}()
	select {
	case <-done:
	case <-time.After(30 * time.Second):
		t.Fatalf("%s doesn't end", what)
	}
}

// P9.1: an atom is right, if its set has an item and its value is from 1 to 2^40.
func TestRight(t *testing.T) {
	for _, s := range []uint64{0, 1, 2, 3, 1 << 31, 1 << 32, 1 << 63, all} {
		for v, right := range map[int64]bool{
			math.MinInt64: false, -big: false, -1: false, 0: false, 1: true, 2: true, 1<<31 - 1: true, 1 << 31: true, 1 << 32: true,
			big - 1: true, big: true, big + 1: false, 2 * big: false, 1<<63 - 1: false, 1<<62 + 5: false,
		} {
			if got := atom.Right(api.Atom{Set: s, Value: v}); got != (right && s != 0) {
				t.Errorf("Right of %b, %d is %v", s, v, got)
			}
		}
	}
}

// P9.1: normal lists, by hand; the document's examples.
func TestNormalByHand(t *testing.T) {
	for i, r := range []struct{ as, want []api.Atom }{
		{nil, nil}, {[]api.Atom{}, nil}, {atoms(0, 5), nil}, {atoms(1, 0, 2, -1, 4, big+1), nil}, {atoms(1, 5), atoms(1, 5)},
		{atoms(1, 5, 3, 5, 2, 3, 2, 2), atoms(1, 5, 2, 3)}, // {0} 5, {0,1} 5, {1} 3, {1} 2
		{atoms(1, 5, 3, 5), atoms(1, 5)}, {atoms(3, 5, 1, 5), atoms(1, 5)}, {atoms(1, 5, 3, 6), atoms(1, 5, 3, 6)}, {atoms(3, 6, 1, 5), atoms(1, 5, 3, 6)}, {atoms(1, 5, 3, 4), atoms(1, 5)},
		{atoms(2, 3, 2, 2), atoms(2, 3)}, {atoms(2, 2, 2, 3), atoms(2, 3)}, {atoms(2, 3, 2, 3), atoms(2, 3)}, {atoms(2, 3, 2, big+1), atoms(2, 3)}, {atoms(2, 3, 2, 0), atoms(2, 3)},
		{atoms(3, 1, 4, 1, 5, 1), atoms(4, 1, 3, 1)}, // {2} stands ahead of {0,1}, and within {0,2}
		{atoms(7, 1, 6, 1, 5, 1, 3, 1), atoms(3, 1, 5, 1, 6, 1)},
		{atoms(7, 9, 3, 5, 6, 9, 1, 5, 2, 1), atoms(1, 5, 2, 1, 6, 9)},
		{atoms(1, 2, 3, 2, 7, 3, 15, 3), atoms(1, 2, 7, 3)}, // what is left out for one that is left out itself
		{atoms(8, big, 9, big), atoms(8, big)}, {atoms(8, big-1, 9, big), atoms(8, big-1, 9, big)}, {atoms(1, 1, 3, 2, 7, 3, -1, 4), atoms(1, 1, 3, 2, 7, 3, -1, 4)},
		{atoms(1, 5, 0, 9, 3, 6), atoms(1, 5, 3, 6)}, {atoms(1, -5, 3, 1), atoms(3, 1)}, {atoms(1, big+1, 3, 1), atoms(3, 1)},
		{atoms(math.MinInt64, 1, 1<<62, 1, 1, 1), atoms(1, 1, 1<<62, 1, math.MinInt64, 1)},
	} {
		checkList(t, "Normal", atom.Normal(r.as), r.want)
		if atom.IsNormal(r.as) != slices.Equal(r.as, r.want) {
			t.Errorf("%d: IsNormal of %v is %v", i, r.as, atom.IsNormal(r.as))
		}
		if !atom.IsNormal(r.want) {
			t.Errorf("%d: %v isn't normal", i, r.want)
		}
	}
}

// P9.1: lists that are normal, and such as aren't, each for one reason alone.
func TestIsNormal(t *testing.T) {
	for _, as := range [][]api.Atom{nil, {}, atoms(1, 1), atoms(1, big), atoms(1, 5, 2, 5, 4, 1, 3, 6), atoms(1, 9, 6, 2), atoms(3, 1, 5, 1, 6, 1, 7, 2), atoms(-1, 1), atoms(1<<62, 1, math.MinInt64, 1)} {
		if !atom.IsNormal(as) {
			t.Errorf("%v isn't normal", as)
		}
	}
	for _, as := range [][]api.Atom{
		{{}}, atoms(0, 1), atoms(1, 0), atoms(1, -1), atoms(1, big+1), atoms(1, math.MaxInt64), atoms(1, math.MinInt64), atoms(0, 1, 1, 2), atoms(1, 2, 2, 0), // one isn't right
		atoms(2, 1, 1, 1), atoms(3, 1, 4, 1), atoms(3, 2, 1, 1), atoms(6, 1, 5, 1), atoms(math.MinInt64, 1, 1, 1), // another order
		atoms(1, 1, 1, 1), atoms(1, 1, 1, 2), atoms(1, 2, 1, 1), atoms(1, 1, 2, 1, 2, 1), // one stands twice
		atoms(1, 1, 3, 1), atoms(1, 2, 3, 1), atoms(1, 5, 2, 1, 3, 5), atoms(2, 5, 5, 7, 7, 7), atoms(1, 1, -1, 1), atoms(1, 1, 2, 9, 5, 3, 7, 9), // a value is no more than that of a set within
	} {
		if atom.IsNormal(as) {
			t.Errorf("%v is normal", as)
		}
	}
}

// P9.1, P9.2: normal lists as the document tells them, of lists in any order.
func TestNormalAtRandom(t *testing.T) {
	rnd := rand.New(rand.NewPCG(2, 2))
	for _, as := range lists() {
		want := normalOf(as)
		checkList(t, "Normal", atom.Normal(as), want)
		if got := atom.IsNormal(as); got != isNormalOf(as) {
			t.Errorf("IsNormal of %v is %v", as, got)
		}
		mixed := slices.Clone(as)
		rnd.Shuffle(len(mixed), func(i, j int) { mixed[i], mixed[j] = mixed[j], mixed[i] })
		checkList(t, "Normal of another order", atom.Normal(mixed), want)
	}
}

// P9.2: the normal list is normal, is its own normal list, and has the same value of every set.
func TestNormalIsWorthTheSame(t *testing.T) {
	rnd := rand.New(rand.NewPCG(3, 3))
	for _, as := range lists() {
		normal := atom.Normal(as)
		if !isNormalOf(normal) || !atom.IsNormal(normal) {
			t.Errorf("%v isn't normal", normal)
		}
		checkList(t, "Normal of a normal list", atom.Normal(normal), normal)
		ss := setsFor(rnd, as)
		for s := range uint64(64) {
			ss = append(ss, s)
		}
		for _, s := range ss {
			if v, w := valueOf(as, s), atom.Value(normal, s); v != w {
				t.Errorf("%b is worth %d, in the normal list %d", s, v, w)
			}
		}
		if atom.Most(normal) != atom.Most(as) {
			t.Errorf("the greatest value is %d, in the normal list %d", atom.Most(as), atom.Most(normal))
		}
	}
}

// P9.1: a list that one atom is turned of, lost of, or twice in, is normal only as the document tells.
func TestIsNormalOfTurnedLists(t *testing.T) {
	rnd := rand.New(rand.NewPCG(4, 4))
	for _, as := range lists() {
		normal := normalOf(as)
		for i := range normal {
			twice := slices.Insert(slices.Clone(normal), i, normal[i])
			lost := slices.Delete(slices.Clone(normal), i, i+1)
			other := slices.Clone(normal)
			other[i] = oneOf(rnd, 6, 12)
			less, swapped := slices.Clone(normal), slices.Clone(normal)
			less[i].Value--
			j := rnd.IntN(len(normal))
			swapped[i], swapped[j] = swapped[j], swapped[i]
			for _, bs := range [][]api.Atom{twice, lost, other, less, swapped} {
				if got := atom.IsNormal(bs); got != isNormalOf(bs) {
					t.Errorf("IsNormal of %v is %v", bs, got)
				}
			}
		}
	}
}

// P9.1, P1 of the whole: what is wrong with a list; that it is too long is told first.
func TestCheck(t *testing.T) {
	many := func(n int, a api.Atom) []api.Atom { return slices.Repeat([]api.Atom{a}, n) }
	right, wrong := api.Atom{Set: 5, Value: 1}, api.Atom{Set: 2, Value: -1}
	for i, r := range []struct {
		as    []api.Atom
		items uint64
		want  api.Errno
	}{
		{nil, 0, 0}, {nil, all, 0}, {[]api.Atom{}, 0, 0}, {atoms(0, 0), 0, 0}, {atoms(0, 5), 0, 0}, {atoms(1, 0), 1, 0}, {atoms(1, big), 1, 0}, {atoms(3, 1, 3, 1, 1, 9), 7, 0}, {atoms(-1, 1), all, 0}, {atoms(math.MinInt64, 1), 1 << 63, 0},
		{atoms(1, 1), 0, 1}, {atoms(1, 1), 2, 1}, {atoms(3, 1), 1, 1}, {atoms(5, 1), 3, 1}, {atoms(-1, 1), all >> 1, 1}, {atoms(math.MinInt64, 1), all >> 1, 1}, {atoms(8, 0), 7, 1},
		{atoms(1, -1), 1, 1}, {atoms(1, big+1), 1, 1}, {atoms(1, math.MaxInt64), 1, 1}, {atoms(1, math.MinInt64), 1, 1}, {atoms(0, -1), 0, 1}, {atoms(0, big+1), 0, 1},
		{atoms(1, 1, 2, 1), 1, 1}, {atoms(2, 1, 1, 1), 1, 1}, {atoms(1, 1, 1, -1), 1, 1}, {atoms(1, 1, 1, big+1, 1, 1), 1, 1},
		{many(64, right), 5, 0}, {many(64, right), 1, 1}, {append(many(63, right), wrong), 7, 1}, {many(65, right), 5, 2}, {many(65, right), 1, 2}, {many(65, wrong), 0, 2}, {append(many(64, right), wrong), 7, 2},
		{many(1000, right), 5, 2}, {make([]api.Atom, 64), 0, 0}, {make([]api.Atom, 65), 0, 2}, {make([]api.Atom, 65), all, 2}, {make([]api.Atom, 100000), 0, 2},
	} {
		want := []api.Errno{api.OK, api.ErrArg, api.ErrMany}[r.want]
		if got := atom.Check(r.as, r.items); got != want {
			t.Errorf("%d: Check of %d atoms is %d, not %d", i, len(r.as), got, want)
		}
	}
}

// P9.1: values and items by hand: what isn't right counts nowhere.
func TestValueMostUnionByHand(t *testing.T) {
	as := atoms(3, 5, 1, 4, 2, 2, 2, 3, 0, 9, 4, 0, 8, -7, 16, big+1, 7, 9, 32, math.MaxInt64)
	for s, want := range map[uint64]int64{0: 0, 1: 4, 2: 3, 3: 5, 4: 0, 5: 4, 6: 3, 7: 9, 8: 0, 16: 0, 32: 0, 15: 9, 11: 5, all: 9, all - 1: 3, all - 7: 0} {
		if got := atom.Value(as, s); got != want {
			t.Errorf("Value of %b is %d, not %d", s, got, want)
		}
	}
	if atom.Most(as) != 9 || atom.Union(as) != 7 {
		t.Errorf("the greatest value is %d, all items are %b", atom.Most(as), atom.Union(as))
	}
	for _, none := range [][]api.Atom{nil, {}, {{}}, atoms(0, 5), atoms(1, 0, 2, -1, 4, big+1, 8, math.MinInt64)} {
		if atom.Value(none, all) != 0 || atom.Most(none) != 0 || atom.Union(none) != 0 || atom.Normal(none) != nil && len(atom.Normal(none)) > 0 {
			t.Errorf("of %v: %d, %d, %b", none, atom.Value(none, all), atom.Most(none), atom.Union(none))
		}
	}
	if ends := atoms(math.MinInt64, big, -1, big); atom.Most(ends) != big || atom.Union(ends) != all || atom.Value(ends, 1<<63) != big || atom.Value(ends, all>>1) != 0 {
		t.Error("at the ends")
	}
}

// P9.1: values, items, and what lies within, of lists at random.
func TestValueMostUnionWithinAtRandom(t *testing.T) {
	rnd := rand.New(rand.NewPCG(5, 5))
	for _, as := range lists() {
		for _, s := range setsFor(rnd, as) {
			if got := atom.Value(as, s); got != valueOf(as, s) {
				t.Errorf("Value of %b is %d, not %d", s, got, valueOf(as, s))
			}
			checkList(t, "Within", slices.Collect(atom.Within(as, s)), rightOf(as, s))
		}
		if atom.Most(as) != valueOf(as, all) || atom.Union(as) != unionOf(as) {
			t.Errorf("the greatest value of %v is %d, all items are %b", as, atom.Most(as), atom.Union(as))
		}
	}
}

// P9.1: what lies within stands as in the list, as often as there, and comes as long as more is asked for.
func TestWithin(t *testing.T) {
	as := atoms(3, 5, 1, 5, 2, 2, 2, 3, 0, 9, 4, 0, 7, 9, 2, 2, 1, 5)
	want := atoms(3, 5, 1, 5, 2, 2, 2, 3, 2, 2, 1, 5)
	seq := atom.Within(as, 3)
	for n := range len(want) + 1 {
		var got []api.Atom
		seq(func(a api.Atom) bool {
			if len(got) > n {
				t.Error("Within goes on when no more is asked for")
			}
			got = append(got, a)
			return len(got) <= n
		})
		checkList(t, "Within", got, want[:min(n+1, len(want))])
	}
	for range atom.Within(as, 0) {
		t.Error("something lies within nothing")
	}
	for range seq {
		checkList(t, "Within within itself", slices.Collect(seq), want)
	}
}

// checkAdds: what items add is what it should be, however often it is gone over, and up to any place.
func checkAdds(t *testing.T, as []api.Atom, s uint64, want []int64) {
	t.Helper()
	seq := atom.Adds(as, s)
	for _, most := range []int{len(want)/2 + 1, 1, len(want) / 2, len(want)/2 + 1} {
		var got []int64
		over := false
		seq(func(item int, by int64) bool {
			if over {
				t.Error("Adds goes on when no more is asked for")
			}
			got = append(got, int64(item), by)
			over = len(got) >= 2*most
			return !over
		})
		if !slices.Equal(got, want[:min(len(want), 2*max(most, 1))]) {
			t.Errorf("Adds of %v, %b: the first %d are %v, of %v", as, s, most, got, want)
		}
	}
}

// P9.1: by how much the value grows with each item that a right atom has, rising.
func TestAdds(t *testing.T) {
	as := atoms(3, 5, 1, 4, 2, 2, 2, 3, 0, 9, 64, 0, 128, -7, 256, big+1, 7, 9)
	checkAdds(t, as, 0, []int64{0, 4, 1, 3, 2, 0})
	checkAdds(t, as, 1, []int64{1, 1, 2, 0})
	checkAdds(t, as, 2, []int64{0, 2, 2, 0})
	checkAdds(t, as, 3, []int64{2, 4})
	checkAdds(t, as, 4, []int64{0, 4, 1, 3})
	checkAdds(t, as, 5, []int64{1, 5})
	checkAdds(t, as, 7, nil)
	checkAdds(t, as, all, nil)
	checkAdds(t, as, all-7, []int64{0, 4, 1, 3, 2, 0})
	checkAdds(t, as, all-1, []int64{0, 6})
	checkAdds(t, atoms(math.MinInt64, big, 1, 1), 0, []int64{0, 1, 63, big})
	checkAdds(t, atoms(-1, big), 0, addsOf(atoms(-1, big), 0))
	checkAdds(t, atoms(-1, big), 1<<63-1, []int64{63, big})
	for _, none := range [][]api.Atom{nil, {}, {{}}, atoms(1, 0, 2, -1, 4, big+1)} {
		checkAdds(t, none, 0, nil)
		checkAdds(t, none, all, nil)
	}
}

// P9.1: what items add, of lists at random.
func TestAddsAtRandom(t *testing.T) {
	rnd := rand.New(rand.NewPCG(6, 6))
	for i, as := range lists() {
		if i%4 == 0 {
			for _, s := range setsFor(rnd, as) {
				checkAdds(t, as, s, addsOf(as, s))
			}
		}
	}
}

// P1 of the whole: long lists end, too.
func TestLongLists(t *testing.T) {
	rnd := rand.New(rand.NewPCG(7, 7))
	var few, many []api.Atom
	for range 200000 {
		few = append(few, oneOf(rnd, 9, 1000))
	}
	for range 5000 {
		many = append(many, oneOf(rnd, 64, big))
	}
	soon(t, "a call of a long list", func() {
		for _, as := range [][]api.Atom{few, many, slices.Repeat(atoms(5, 5), 200000)} {
			normal := atom.Normal(as)
			checkList(t, "Normal", normal, normalOf(as))
			if !atom.IsNormal(normal) || atom.IsNormal(as) {
				t.Error("IsNormal of a long list")
			}
			if atom.Value(as, all) != atom.Most(as) || atom.Most(as) != valueOf(as, all) || atom.Union(as) != unionOf(as) {
				t.Error("Value, Most, Union of a long list")
			}
			for range atom.Within(as, all) {
				break
			}
			for range atom.Adds(as, 0) {
				break
			}
		}
	})
}

// P9.3: what is handed in stays, the memory behind the list's length too.
func TestArgumentsStay(t *testing.T) {
	for _, as := range lists() {
		room := append(slices.Clone(as), atoms(1, 7, 9, 9, 0, 0)...)
		kept := slices.Clone(room)
		bs := room[:len(as)]
		atom.Normal(bs)
		atom.IsNormal(bs)
		atom.Check(bs, 7)
		atom.Value(bs, 7)
		atom.Most(bs)
		atom.Union(bs)
		for range atom.Within(bs, all) {
			continue
		}
		for range atom.Adds(bs, 0) {
			continue
		}
		checkList(t, "what was handed in", room, kept)
	}
}

// overwrite writes over a list, the memory behind its length too.
func overwrite(as []api.Atom) {
	as = as[:cap(as)]
	for i := range as {
		as[i] = api.Atom{Set: 1 << 40, Value: 77}
	}
}

// P9.3: what is handed in may be written over behind the call, and on the way.
func TestArgumentsWrittenOver(t *testing.T) {
	as := atoms(1, 5, 2, 6, 3, 9)
	within, adds := atom.Within(as, 3), atom.Adds(as, 1)
	normal := atom.Normal(as)
	overwrite(as)
	checkList(t, "Normal", normal, atoms(1, 5, 2, 6, 3, 9))
	for range 2 {
		checkList(t, "Within", slices.Collect(within), atoms(1, 5, 2, 6, 3, 9))
		for item, by := range adds {
			if item != 1 || by != 4 {
				t.Errorf("Adds: %d, %d", item, by)
			}
		}
	}
	as = atoms(1, 5, 2, 6, 3, 9)
	var got []api.Atom
	for a := range atom.Within(as, 3) {
		got = append(got, a)
		overwrite(as)
	}
	checkList(t, "Within, written over on the way", got, atoms(1, 5, 2, 6, 3, 9))
	as = atoms(1, 5, 2, 6, 3, 12)
	var adding []int64
	for item, by := range atom.Adds(as, 0) {
		adding = append(adding, int64(item), by)
		overwrite(as)
	}
	if !slices.Equal(adding, []int64{0, 5, 1, 6}) {
		t.Errorf("Adds, written over on the way: %v", adding)
	}
}

// P9.3: answers are new memory each time, spare room too: they share none with an argument, nor with each other.
func TestAnswersAreNew(t *testing.T) {
	for _, as := range lists() {
		for _, bs := range [][]api.Atom{as, normalOf(as)} { // a list that is normal already is answered as a new one, too
			kept := slices.Clone(bs)
			one, other := atom.Normal(bs), atom.Normal(bs)
			want := slices.Clone(other)
			overwrite(one)
			checkList(t, "what was handed in", bs, kept)
			checkList(t, "another answer", other, want)
			checkList(t, "Normal behind it", atom.Normal(bs), want)
		}
	}
}

// P2 of the whole: the same lists are answered the same.
func TestAnswersHangOnArguments(t *testing.T) {
	ls := lists()
	var first [][]api.Atom
	for _, as := range ls {
		first = append(first, atom.Normal(as))
	}
	for range 3 {
		for i := range ls {
			checkList(t, "Normal once more", atom.Normal(ls[len(ls)-1-i]), first[len(ls)-1-i])
		}
	}
}
