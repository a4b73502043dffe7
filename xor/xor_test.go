// The tests of layer 10. Above each stands the promise that it holds the program to.
package xor_test

import (
	"bytes"
	"math"
	"math/rand/v2"
	"slices"
	"testing"
	"time"

	"saleroom/api"
	"saleroom/xor"
)

const (
	all uint64 = math.MaxUint64 // the set of all items
	big int64  = 1 << 40        // the greatest value
)

// atoms are atoms told as sets and values in turn.
func atoms(numbers ...int64) []api.Atom {
	var as []api.Atom
	for i := 0; i < len(numbers); i += 2 {
		as = append(as, api.Atom{Set: uint64(numbers[i]), Value: numbers[i+1]})
	}
	return as
}

// val is the valuation of atoms told as sets and values in turn.
func val(numbers ...int64) xor.Val { return xor.New(atoms(numbers...)) }

// countOf is how many items a set has, found bit by bit.
func countOf(s uint64) int {
	n := 0
	for ; s > 0; s /= 2 {
		n += int(s % 2)
	}
	return n
}

// standsAhead tells whether a set stands before another one, as layer 2 tells it.
func standsAhead(a, b uint64) bool {
	return countOf(a) < countOf(b) || countOf(a) == countOf(b) && a < b
}

// liesWithin tells whether all items of a are in b.
func liesWithin(a, b uint64) bool { return a|b == b }

// normalOf is the normal list of atoms, as layer 9 tells it.
func normalOf(as []api.Atom) []api.Atom {
	most := map[uint64]int64{}
	for _, a := range as {
		if a.Set != 0 && a.Value >= 1 && a.Value <= big {
			most[a.Set] = max(most[a.Set], a.Value)
		}
	}
	var got []api.Atom
	for s, v := range most {
		beaten := false
		for other, w := range most {
			beaten = beaten || other != s && liesWithin(other, s) && w >= v
		}
		if !beaten {
			got = append(got, api.Atom{Set: s, Value: v})
		}
	}
	slices.SortFunc(got, func(a, b api.Atom) int {
		if standsAhead(a.Set, b.Set) {
			return -1
		}
		return 1
	})
	return got
}

// withinOf are the atoms that lie within a set.
func withinOf(as []api.Atom, s uint64) []api.Atom {
	var got []api.Atom
	for _, a := range as {
		if liesWithin(a.Set, s) {
			got = append(got, a)
		}
	}
	return got
}

// lessOf are atoms with their values less by, those of a value that isn't right too.
func lessOf(as []api.Atom, by int64) []api.Atom {
	var got []api.Atom
	for _, a := range as {
		got = append(got, api.Atom{Set: a.Set, Value: a.Value - max(by, 0)})
	}
	return got
}

// valueOf is the greatest value of the atoms within a set.
func valueOf(as []api.Atom, s uint64) int64 {
	var most int64
	for _, a := range withinOf(as, s) {
		most = max(most, a.Value)
	}
	return most
}

// unionOf are all items of atoms.
func unionOf(as []api.Atom) uint64 {
	var u uint64
	for _, a := range as {
		u |= a.Set
	}
	return u
}

// uintBytes are a whole number's bytes, as layer 5 tells it.
func uintBytes(n uint64) []byte {
	if n < 128 {
		return []byte{byte(n)}
	}
	return append([]byte{byte(n%128) + 128}, uintBytes(n/128)...)
}

// bytesOf are the bytes of a list of atoms, as the document tells it; a value is 0 or more.
func bytesOf(as []api.Atom) []byte {
	b := uintBytes(uint64(len(as)))
	for _, a := range as {
		b = slices.Concat(b, uintBytes(a.Set), uintBytes(2*uint64(a.Value)))
	}
	return b
}

// oneOf is an atom at random: of few items or of many, of few values or of many, right or not.
func oneOf(rnd *rand.Rand, items int, most int64) api.Atom {
	a := api.Atom{Set: rnd.Uint64() >> (64 - items), Value: 1 + rnd.Int64N(most)}
	if rnd.IntN(3) == 0 {
		a.Set &= rnd.Uint64()
	}
	switch rnd.IntN(20) {
	case 0:
		a.Set = 0
	case 1:
		a.Value = []int64{0, -1, math.MinInt64, -big, big + 1, math.MaxInt64}[rnd.IntN(6)]
	case 2:
		a.Value = []int64{1, big - 1, big}[rnd.IntN(3)]
	}
	return a
}

// lists are lists at random, by hand, and at their ends.
func lists() [][]api.Atom {
	ls := [][]api.Atom{nil, {}, {{}}, make([]api.Atom, 100), atoms(1, 1), atoms(1, 0), atoms(0, 1), atoms(-1, big), atoms(1, big+1), atoms(1, -1), atoms(1, math.MaxInt64, 1, math.MinInt64), atoms(1, 5, 3, 8)}
	rnd := rand.New(rand.NewPCG(1, 10))
	for n := range 200 {
		var as []api.Atom
		items, most := 1+rnd.IntN(6), int64(1+rnd.IntN(12))
		if n%5 == 0 {
			items, most = 1+rnd.IntN(64), big
		}
		for range rnd.IntN(1 + n/5) {
			as = append(as, oneOf(rnd, items, most))
		}
		ls = append(ls, as)
	}
	return ls
}

// setsFor are sets to hold against atoms: theirs, with an item more and less, others, and the ends.
func setsFor(rnd *rand.Rand, as []api.Atom) []uint64 {
	ss := []uint64{0, 1, 2, 3, 7, all, all - 1, all >> 1, 1 << 63, rnd.Uint64(), rnd.Uint64() % 64, rnd.Uint64() % 64}
	for range min(len(as), 6) {
		s := as[rnd.IntN(len(as))].Set
		ss = append(ss, s, s&(s-1), s|1<<rnd.IntN(64), s|as[rnd.IntN(len(as))].Set, ^s)
	}
	return ss
}

// checkVal: all that a valuation tells is told as of these atoms, a normal list.
func checkVal(t *testing.T, what string, v xor.Val, want []api.Atom) {
	t.Helper()
	var got []api.Atom
	for i, a := range v.Atoms() {
		if i != len(got) {
			t.Errorf("%s: place %d behind %d atoms", what, i, len(got))
		}
		got = append(got, a)
	}
	if !slices.Equal(got, want) {
		t.Errorf("%s: %v, not %v", what, got, want)
	}
	if v.Len() != len(want) {
		t.Errorf("%s: there are %d, not %d", what, v.Len(), len(want))
	}
	for i, a := range want {
		if b, ok := v.At(i); b != a || !ok {
			t.Errorf("%s: at %d: %v, %v", what, i, b, ok)
		}
	}
	for _, i := range []int{-1, len(want), len(want) + 1, math.MinInt, math.MaxInt, 1 << 32, -1 << 32} {
		if a, ok := v.At(i); a != (api.Atom{}) || ok {
			t.Errorf("%s: at %d: %v, %v", what, i, a, ok)
		}
	}
	if v.Most() != valueOf(want, all) || v.Items() != unionOf(want) || v.Value(all) != valueOf(want, all) {
		t.Errorf("%s: the greatest value is %d, of all items %d; all items are %b", what, v.Most(), v.Value(all), v.Items())
	}
	if b := xor.Write(v); !bytes.Equal(b, bytesOf(want)) {
		t.Errorf("%s: written as % x", what, b)
	}
}

// checkRead: bytes aren't read, but are an error.
func checkRead(t *testing.T, b []byte, want api.Errno) {
	t.Helper()
	v, e := xor.Read(b)
	if e != want {
		t.Errorf("% x: error %d, not %d", b[:min(len(b), 20)], e, want)
	}
	checkVal(t, "beside an error", v, nil)
}

// soon fails a test in which a call doesn't end.
func soon(t *testing.T, what string, do func()) {
	t.Helper()
	done := make(chan struct{})
	go func() {
		defer close(done)
		do()
	}()
	select {
	case <-done:
	case <-time.After(30 * time.Second):
		t.Fatalf("%s doesn't end", what)
	}
}

// P10.1: the document's example.
func TestExample(t *testing.T) {
	v := val(1, 5, 3, 8)
	if v.Value(5) != 5 {
		t.Errorf("{0,2} is worth %d", v.Value(5))
	}
	checkVal(t, "less 6", v.Less(6), atoms(3, 2))
}

// P10.1: the zero valuation has no atoms, and is such as others.
func TestZero(t *testing.T) {
	var zero xor.Val
	for _, v := range []xor.Val{zero, xor.New(nil), xor.New([]api.Atom{}), val(0, 5), val(1, 0, 2, -1, 4, big+1), zero.Within(all), zero.Less(0), zero.Less(-1), zero.Less(big), zero.Join(zero), val(1, 5).Within(0), val(1, 5).Less(5)} {
		checkVal(t, "of no atoms", v, nil)
		if !v.Same(zero) || !zero.Same(v) || v.Value(0) != 0 || v.Value(7) != 0 {
			t.Error("it isn't the same as the zero one")
		}
		checkVal(t, "joined", v.Join(val(1, 5)), atoms(1, 5))
		checkVal(t, "joined the other way", val(1, 5).Join(v), atoms(1, 5))
	}
}

// P10.1: a valuation has the atoms' normal list, by hand.
func TestNewByHand(t *testing.T) {
	for _, r := range []struct{ as, want []api.Atom }{
		{atoms(1, 5), atoms(1, 5)}, {atoms(1, 5, 3, 5), atoms(1, 5)}, {atoms(3, 5, 1, 5), atoms(1, 5)}, {atoms(3, 6, 1, 5), atoms(1, 5, 3, 6)},
		{atoms(1, 5, 3, 8, 3, 4, 4, 2), atoms(1, 5, 4, 2, 3, 8)}, {atoms(2, 3, 2, 2), atoms(2, 3)}, {atoms(2, 2, 2, 3), atoms(2, 3)}, {atoms(2, 3, 2, 3), atoms(2, 3)},
		{atoms(3, 1, 4, 1, 5, 1), atoms(4, 1, 3, 1)}, {atoms(0, 9, 1, 2), atoms(1, 2)}, {atoms(1, big+1, 3, 1), atoms(3, 1)}, {atoms(1, -5, 3, 1, 2, 0), atoms(3, 1)},
		{atoms(8, big, 9, big), atoms(8, big)}, {atoms(8, big-1, 9, big), atoms(8, big-1, 9, big)}, {atoms(-1, 4, math.MinInt64, 1), atoms(math.MinInt64, 1, -1, 4)},
	} {
		checkVal(t, "New", xor.New(r.as), r.want)
	}
}

// P10.1: valuations of lists at random, and what sets are worth by them.
func TestNewAtRandom(t *testing.T) {
	rnd := rand.New(rand.NewPCG(2, 10))
	for _, as := range lists() {
		v, want := xor.New(as), normalOf(as)
		checkVal(t, "New", v, want)
		for _, s := range setsFor(rnd, as) {
			if v.Value(s) != valueOf(want, s) {
				t.Errorf("%b is worth %d, not %d", s, v.Value(s), valueOf(want, s))
			}
		}
	}
}

// P10.1: values by hand.
func TestValueByHand(t *testing.T) {
	v := val(1, 5, 3, 8, 3, 4, 4, 2)
	for s, want := range map[uint64]int64{0: 0, 1: 5, 2: 0, 3: 8, 4: 2, 5: 5, 6: 2, 7: 8, 8: 0, all: 8, all - 1: 2, all - 5: 0, all - 2: 5} {
		if v.Value(s) != want {
			t.Errorf("%b is worth %d, not %d", s, v.Value(s), want)
		}
	}
	if v.Most() != 8 || v.Items() != 7 {
		t.Errorf("the greatest value is %d, all items are %b", v.Most(), v.Items())
	}
	if w := val(math.MinInt64, big, -1, big, 1, 1); w.Most() != big || w.Items() != 1<<63+1 || w.Value(all>>1) != 1 || w.Value(1<<63) != big {
		t.Error("at the ends")
	}
}

// P10.1: atoms come with their places as long as more is asked for, and may be gone over again, within themselves too.
func TestAtoms(t *testing.T) {
	want := atoms(1, 5, 2, 4, 4, 2, 3, 8, 6, 9)
	seq := xor.New(want).Atoms()
	for n := range len(want) {
		var got []api.Atom
		seq(func(i int, a api.Atom) bool {
			if len(got) > n {
				t.Error("it goes on when no more is asked for")
			}
			got = append(got, a)
			return len(got) <= n
		})
		if !slices.Equal(got, want[:n+1]) {
			t.Errorf("the first %d atoms: %v", n+1, got)
		}
	}
	for i, a := range seq {
		for j, b := range seq {
			if want[i] != a || want[j] != b {
				t.Errorf("%d %v, %d %v", i, a, j, b)
			}
		}
	}
}

// P10.1: less by amounts, by hand: below 0 counts as 0; what is worth nothing more is left out.
func TestLessByHand(t *testing.T) {
	v := val(1, 5, 4, 2, 3, 8, 7, big)
	for _, r := range []struct {
		by   int64
		want []api.Atom
	}{
		{0, atoms(1, 5, 4, 2, 3, 8, 7, big)}, {-1, atoms(1, 5, 4, 2, 3, 8, 7, big)}, {-big, atoms(1, 5, 4, 2, 3, 8, 7, big)}, {math.MinInt64, atoms(1, 5, 4, 2, 3, 8, 7, big)},
		{1, atoms(1, 4, 4, 1, 3, 7, 7, big-1)}, {2, atoms(1, 3, 3, 6, 7, big-2)}, {4, atoms(1, 1, 3, 4, 7, big-4)}, {5, atoms(3, 3, 7, big-5)}, {7, atoms(3, 1, 7, big-7)}, {8, atoms(7, big-8)},
		{big - 1, atoms(7, 1)}, {big, nil}, {big + 1, nil}, {math.MaxInt64, nil}, {math.MaxInt64 - 1, nil}, {1 << 62, nil},
	} {
		checkVal(t, "Less", v.Less(r.by), r.want)
	}
}

// P10.1: atoms within sets, less by amounts, and joined, of lists at random: as the normal lists of these.
func TestWithinLessJoinAtRandom(t *testing.T) {
	rnd := rand.New(rand.NewPCG(3, 10))
	ls := lists()
	for _, as := range ls {
		v, normal := xor.New(as), normalOf(as)
		for _, s := range setsFor(rnd, as) {
			checkVal(t, "Within", v.Within(s), normalOf(withinOf(normal, s)))
		}
		for _, by := range []int64{math.MinInt64, -1, 0, 1, 2, 3, 5, 8, rnd.Int64N(big), big - 1, big, big + 1, math.MaxInt64} {
			checkVal(t, "Less", v.Less(by), normalOf(lessOf(normal, by)))
		}
		bs := ls[rnd.IntN(len(ls))]
		checkVal(t, "Join", v.Join(xor.New(bs)), normalOf(slices.Concat(as, bs)))
		checkVal(t, "Join with itself", v.Join(v), normal)
	}
}

// P10.1: joined, by hand.
func TestJoinByHand(t *testing.T) {
	v := val(1, 5, 4, 2, 3, 8)
	for _, r := range []struct {
		w    xor.Val
		want []api.Atom
	}{
		{val(1, 9), atoms(1, 9, 4, 2)}, {val(1, 8), atoms(1, 8, 4, 2)}, {val(1, 7), atoms(1, 7, 4, 2, 3, 8)}, {val(1, 4), atoms(1, 5, 4, 2, 3, 8)},
		{val(2, 8), atoms(1, 5, 2, 8, 4, 2)}, {val(7, 8), atoms(1, 5, 4, 2, 3, 8)}, {val(7, 9), atoms(1, 5, 4, 2, 3, 8, 7, 9)}, {val(5, 6, 3, 9), atoms(1, 5, 4, 2, 3, 9, 5, 6)}, {v, atoms(1, 5, 4, 2, 3, 8)},
	} {
		checkVal(t, "joined", v.Join(r.w), r.want)
		checkVal(t, "joined the other way", r.w.Join(v), r.want)
	}
}

// P10.1: valuations are the same, if they have the same atoms, however they were made.
func TestSame(t *testing.T) {
	vs := []xor.Val{{}, val(1, 5), val(1, 6), val(2, 5), val(1, 5, 2, 5), val(1, 5, 3, 8), val(1, 5, 3, 9), val(1, 5, 2, 5, 3, 8), val(3, 8), val(-1, 5), val(1, 5, 2, 6)}
	for i, v := range vs {
		for j, w := range vs {
			if v.Same(w) != (i == j) {
				t.Errorf("%d, %d: Same is %v", i, j, v.Same(w))
			}
		}
	}
	for _, w := range []xor.Val{val(3, 8, 1, 5), val(1, 5, 3, 8, 3, 7, 0, 1), val(1, 5).Join(val(3, 8)), val(1, 6, 3, 9).Less(1), val(1, 5, 3, 8, 4, 1).Within(3)} {
		if v := val(1, 5, 3, 8); !v.Same(w) || !w.Same(v) {
			t.Error("they have the same atoms")
		}
	}
	rnd := rand.New(rand.NewPCG(4, 10))
	ls := lists()
	for _, as := range ls {
		bs := slices.Clone(as)
		rnd.Shuffle(len(bs), func(i, j int) { bs[i], bs[j] = bs[j], bs[i] })
		if !xor.New(as).Same(xor.New(bs)) || !xor.New(as).Same(xor.New(as)) {
			t.Errorf("of %v, in another order", as)
		}
		other := ls[rnd.IntN(len(ls))]
		if got := xor.New(as).Same(xor.New(other)); got != slices.Equal(normalOf(as), normalOf(other)) {
			t.Errorf("%v and %v: Same is %v", as, other, got)
		}
	}
}

// P10.1: the greatest values, added up as layer 1 does: as far as 2^47.
func TestTotal(t *testing.T) {
	most := val(1, 1, -1, big)
	for i, r := range []struct {
		vs   []xor.Val
		want int64
		ok   bool
	}{
		{nil, 0, true}, {[]xor.Val{}, 0, true}, {[]xor.Val{{}}, 0, true}, {make([]xor.Val, 1000), 0, true}, {[]xor.Val{val(1, 5, 3, 8)}, 8, true}, {[]xor.Val{val(1, 5, 3, 8), {}, val(1, 9), val(1, 9)}, 26, true},
		{slices.Repeat([]xor.Val{most}, 128), 1 << 47, true}, {slices.Repeat([]xor.Val{most}, 129), 0, false}, {append(slices.Repeat([]xor.Val{most}, 128), xor.Val{}), 1 << 47, true},
		{append(slices.Repeat([]xor.Val{most}, 128), val(1, 1)), 0, false}, {append(slices.Repeat([]xor.Val{most}, 127), most.Less(1)), 1<<47 - 1, true}, {append([]xor.Val{val(1, 1)}, slices.Repeat([]xor.Val{most}, 128)...), 0, false},
		{slices.Repeat([]xor.Val{most}, 5000), 0, false}, {slices.Repeat([]xor.Val{val(2, 3)}, 5000), 15000, true},
	} {
		if n, ok := xor.Total(r.vs...); n != r.want || ok != r.ok {
			t.Errorf("%d: %d, %v", i, n, ok)
		}
	}
	vs := []xor.Val{val(1, 5), val(2, 6)}
	xor.Total(vs...)
	if !vs[0].Same(val(1, 5)) || !vs[1].Same(val(2, 6)) {
		t.Error("Total turns what it is handed")
	}
}

// P10.2: a set is worth no less than what lies within it, and joined what the better one says.
func TestWorth(t *testing.T) {
	rnd := rand.New(rand.NewPCG(5, 10))
	ls := lists()
	for _, as := range ls {
		bs := ls[rnd.IntN(len(ls))]
		v, w := xor.New(as), xor.New(bs)
		both := v.Join(w)
		ss := append(setsFor(rnd, as), setsFor(rnd, bs)...)
		for _, s := range ss {
			if both.Value(s) != max(v.Value(s), w.Value(s)) {
				t.Errorf("%b is worth %d, %d, joined %d", s, v.Value(s), w.Value(s), both.Value(s))
			}
			if other := s & ss[rnd.IntN(len(ss))]; v.Value(other) > v.Value(s) || both.Value(other) > both.Value(s) {
				t.Errorf("%b is worth more than %b", other, s)
			}
		}
	}
}

// P10.1: valuations as bytes, and bytes that are none, by hand: layer 5's errors come first.
func TestWriteReadByHand(t *testing.T) {
	for text, want := range map[string][]api.Atom{
		"\x00": nil, "\x01\x01\x02": atoms(1, 1), "\x02\x01\x0A\x03\x10": atoms(1, 5, 3, 8), "\x03\x01\x0A\x04\x04\x03\x10": atoms(1, 5, 4, 2, 3, 8),
		"\x01\x80\x01\x80\x80\x80\x80\x80\x40": atoms(128, big), "\x01\xFF\xFF\xFF\xFF\xFF\xFF\xFF\xFF\xFF\x01\x02": atoms(-1, 1),
	} {
		v, e := xor.Read([]byte(text))
		if e != api.OK {
			t.Errorf("% x: error %d", text, e)
		}
		checkVal(t, "Read", v, want)
		if b := xor.Write(xor.New(want)); string(b) != text {
			t.Errorf("written as % x, not % x", b, text)
		}
	}
	for text, want := range map[string]api.Errno{
		"": api.ErrShort, "\x01": api.ErrShort, "\x01\x01": api.ErrShort, "\x02\x01\x0A": api.ErrShort, "\x02\x01\x0A\x03": api.ErrShort, "\x80": api.ErrShort, "\x01\x80": api.ErrShort, "\x01\x01\xFF": api.ErrShort, "\x40": api.ErrShort,
		"\x41": api.ErrMany, "\xFF\xFF\xFF\xFF\xFF\xFF\xFF\xFF\xFF\x01": api.ErrMany, "\x80\x01": api.ErrMany, "\x41\x00": api.ErrMany,
		"\x80\x00": api.ErrForm, "\x01\x81\x00\x0A": api.ErrForm, "\x01\x01\x8A\x00": api.ErrForm, "\x01\xFF\xFF\xFF\xFF\xFF\xFF\xFF\xFF\xFF\x02\x0A": api.ErrForm, // no whole number
		"\x00\x00": api.ErrForm, "\x01\x01\x0A\x00": api.ErrForm, "\x01\x01\x0A\x03\x10": api.ErrForm, // some are left
		"\x01\x00\x02": api.ErrForm, "\x01\x01\x00": api.ErrForm, "\x01\x01\x01": api.ErrForm, "\x01\x01\x09": api.ErrForm, "\x01\x01\x82\x80\x80\x80\x80\x40": api.ErrForm, "\x01\x00\x00": api.ErrForm, // one isn't right
		"\x02\x03\x10\x01\x0A": api.ErrForm, "\x02\x03\x02\x04\x02": api.ErrForm, "\x02\x02\x02\x01\x02": api.ErrForm, // another order
		"\x02\x01\x0A\x01\x0A": api.ErrForm, "\x02\x01\x0A\x01\x0C": api.ErrForm, "\x02\x01\x0A\x03\x0A": api.ErrForm, "\x02\x01\x0A\x03\x08": api.ErrForm, // twice, or worth no more
		"\x02\x00\x02\x01": api.ErrShort, "\x03\x03\x10\x01\x0A": api.ErrShort, // not normal, but short first
	} {
		checkRead(t, []byte(text), want)
	}
}

// P10.1, P10.3: of as many atoms as may be, and of one more; that they are too many is told first.
func TestReadOfMany(t *testing.T) {
	var as []api.Atom
	for i := range 64 {
		as = append(as, api.Atom{Set: 1 << i, Value: int64(i + 1)})
	}
	v := xor.New(as)
	checkVal(t, "of 64 atoms", v, as)
	if w, e := xor.Read(xor.Write(v)); e != api.OK || !w.Same(v) {
		t.Errorf("of 64 atoms: error %d", e)
	}
	more := v.Join(val(3, 70))
	checkVal(t, "of 65 atoms", more, append(as, api.Atom{Set: 3, Value: 70}))
	checkRead(t, xor.Write(more), api.ErrMany)
	checkRead(t, xor.Write(more)[:9], api.ErrMany)
	checkRead(t, append(xor.Write(more), 0), api.ErrMany)
	checkRead(t, xor.Write(v)[:20], api.ErrShort)
	checkRead(t, append(xor.Write(v), 0), api.ErrForm)
}

// P10.3: what is written is read as it, up to its last byte.
func TestWrittenIsRead(t *testing.T) {
	for _, as := range lists() {
		v := xor.New(as)
		if v.Len() > api.MaxAtoms {
			continue
		}
		b := xor.Write(v)
		w, e := xor.Read(b)
		if e != api.OK || !w.Same(v) {
			t.Errorf("of %v: error %d", as, e)
		}
		checkVal(t, "Read", w, normalOf(as))
		for n := range b {
			checkRead(t, b[:n], api.ErrShort)
		}
		checkRead(t, append(slices.Clone(b), 0), api.ErrForm)
	}
}

// P10.3: whatever bytes are read are written as the same bytes, and are a normal list; all others are an error.
func TestReadIsWritten(t *testing.T) {
	rnd := rand.New(rand.NewPCG(6, 10))
	read := 0
	for range 200000 {
		b := []byte{byte(rnd.IntN(4))}
		for range 2*int(b[0]) + rnd.IntN(6)/5 {
			b = append(b, byte(rnd.IntN(10)))
			if rnd.IntN(20) == 0 {
				b[len(b)-1] += 128
			}
		}
		v, e := xor.Read(b)
		if e != api.OK {
			if v.Len() != 0 || e != api.ErrForm && e != api.ErrShort {
				t.Fatalf("% x: error %d", b, e)
			}
			continue
		}
		read++
		if !bytes.Equal(xor.Write(v), b) {
			t.Fatalf("% x is written as % x", b, xor.Write(v))
		}
		var as []api.Atom
		for _, a := range v.Atoms() {
			as = append(as, a)
		}
		if !slices.Equal(as, normalOf(as)) {
			t.Fatalf("% x is read as %v", b, as)
		}
	}
	if read < 1000 {
		t.Errorf("only %d were read", read)
	}
}

// P10.1: lists that aren't normal, of any kind, aren't read.
func TestReadOfOtherLists(t *testing.T) {
	for _, as := range lists() {
		if len(as) > api.MaxAtoms || slices.ContainsFunc(as, func(a api.Atom) bool { return a.Value < 0 || a.Value > 1<<62 }) {
			continue
		}
		v, e := xor.Read(bytesOf(as))
		if normal := slices.Equal(as, normalOf(as)); normal != (e == api.OK) || !normal && (e != api.ErrForm || v.Len() != 0) {
			t.Errorf("%v: error %d, %d atoms", as, e, v.Len())
		}
	}
}

// overwrite writes over a list, the memory behind its length too.
func overwrite[T any](all []T, with T) {
	all = all[:cap(all)]
	for i := range all {
		all[i] = with
	}
}

// P10.4: what is handed in stays, the memory behind its length too, and may be written over behind the call.
func TestArguments(t *testing.T) {
	for _, as := range append(lists(), atoms(1, 5, 3, 8)) { // one is a normal list already
		room := append(slices.Clone(as), atoms(1, 7, 9, 9)...)
		kept := slices.Clone(room)
		v := xor.New(room[:len(as)])
		if !slices.Equal(room, kept) {
			t.Errorf("%v became %v", kept, room)
		}
		seq := v.Atoms()
		overwrite(room, api.Atom{Set: 1 << 40, Value: 77})
		checkVal(t, "behind it", v, normalOf(as))
		for range seq {
			break
		}
	}
	b := append(xor.Write(val(1, 5, 3, 8)), 9, 9)
	kept := slices.Clone(b)
	v, _ := xor.Read(b[:len(b)-2])
	if !bytes.Equal(b, kept) {
		t.Errorf("% x became % x", kept, b)
	}
	overwrite(b, 1)
	checkVal(t, "behind it", v, atoms(1, 5, 3, 8))
	vs := []xor.Val{val(1, 5), val(2, 6)}
	xor.Total(vs[:1]...)
	if !vs[0].Same(val(1, 5)) || !vs[1].Same(val(2, 6)) {
		t.Error("Total turns what it is handed")
	}
}

// P10.4: bytes are new ones each time, spare room too.
func TestBytesAreNew(t *testing.T) {
	v := val(1, 5, 3, 8)
	one, other := xor.Write(v), xor.Write(v)
	overwrite(one, 1)
	if !bytes.Equal(other, bytesOf(atoms(1, 5, 3, 8))) {
		t.Errorf("another answer became % x", other)
	}
	checkVal(t, "behind it", v, atoms(1, 5, 3, 8))
}

// P10.4: whatever is made of valuations, in whatever order, they stay as they were.
func TestValuationsStay(t *testing.T) {
	rnd := rand.New(rand.NewPCG(7, 10))
	vs, want := []xor.Val{{}}, [][]api.Atom{nil}
	for _, as := range lists()[:60] {
		vs, want = append(vs, xor.New(as)), append(want, normalOf(as))
	}
	for range 1500 {
		i, j := rnd.IntN(len(vs)), rnd.IntN(len(vs))
		s, by := rnd.Uint64()|rnd.Uint64(), rnd.Int64N(3)-1
		switch rnd.IntN(3) {
		case 0:
			vs, want = append(vs, vs[i].Within(s)), append(want, withinOf(want[i], s))
		case 1:
			vs, want = append(vs, vs[i].Less(by)), append(want, normalOf(lessOf(want[i], by)))
		case 2:
			vs, want = append(vs, vs[i].Join(vs[j])), append(want, normalOf(slices.Concat(want[i], want[j])))
		}
	}
	for i, v := range vs {
		checkVal(t, "behind all", v, want[i])
	}
}

// P1 of the whole: long lists end, too.
func TestLongLists(t *testing.T) {
	rnd := rand.New(rand.NewPCG(8, 10))
	var few, many []api.Atom
	for range 200000 {
		few = append(few, oneOf(rnd, 8, 1000))
	}
	for range 3000 {
		many = append(many, oneOf(rnd, 64, big))
	}
	soon(t, "a call of a long list", func() {
		for _, as := range [][]api.Atom{few, many} {
			v, want := xor.New(as), normalOf(as)
			if v.Len() != len(want) || v.Most() != valueOf(want, all) || v.Items() != unionOf(want) || !v.Join(v).Same(v) || !v.Within(all).Same(v) || !v.Less(0).Same(v) {
				t.Error("a valuation of a long list")
			}
			if b := xor.Write(v); !bytes.Equal(b, bytesOf(want)) {
				t.Error("a long list as bytes")
			}
		}
		checkRead(t, make([]byte, 1<<24), api.ErrForm)
		checkRead(t, bytes.Repeat([]byte{255}, 1<<24), api.ErrShort)
	})
}

// P2 of the whole: the same lists are answered the same.
func TestAnswersHangOnArguments(t *testing.T) {
	ls := lists()
	var first [][]byte
	for _, as := range ls {
		first = append(first, xor.Write(xor.New(as)))
	}
	for range 3 {
		for i := range ls {
			if at := len(ls) - 1 - i; !bytes.Equal(xor.Write(xor.New(ls[at])), first[at]) {
				t.Errorf("%v once more", ls[at])
			}
		}
	}
}
