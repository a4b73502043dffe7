// The tests of layer 2. Above each stands the promise that it holds the program to.
package set_test

import (
	"iter"
	"math"
	"math/rand/v2"
	"slices"
	"strconv"
	"strings"
	"testing"
	"time"

	"saleroom/api"
	"saleroom/set"
)

const all uint64 = math.MaxUint64 // the set of all items

// sets are the ends of what a set can be, and others, with few items and with many.
func sets() []uint64 {
	ss := []uint64{0, 1, 2, 3, 5, 7, 10, 13, 1 << 31, 1 << 32, 1 << 62, 1 << 63, 1<<63 | 1, 1<<32 - 1, all, all - 1, all >> 1, 0xFFFFFFFF00000000, 0xAAAAAAAAAAAAAAAA, 0x5555555555555555}
	rnd := rand.New(rand.NewPCG(1, 1))
	for range 20 {
		s := rnd.Uint64()
		ss = append(ss, s, s&rnd.Uint64()&rnd.Uint64(), s|rnd.Uint64()|rnd.Uint64(), sparse(rnd, 4))
	}
	return ss
}

func sparse(rnd *rand.Rand, n int) uint64 {
	var s uint64
	for range n {
		s |= 1 << rnd.IntN(64)
	}
	return s
}

// small are sets whose subsets are few, with items from 0 to 63.
func small() []uint64 {
	ss := []uint64{0, 1, 2, 3, 5, 10, 0b1101101, 1 << 63, 1<<63 | 1, 3 << 62, 1<<63 | 1<<33 | 1<<32 | 1<<31 | 1, 0x3FF, 0x8421084210842108}
	rnd := rand.New(rand.NewPCG(2, 2))
	for n := range 9 {
		ss = append(ss, sparse(rnd, n), sparse(rnd, n))
	}
	return ss
}

// itemsOf are a set's items, rising, found bit by bit.
func itemsOf(s uint64) []int {
	var got []int
	for n := range 64 {
		if s>>n%2 == 1 {
			got = append(got, n)
		}
	}
	return got
}

// subsetsOf are a set's subsets, rising: each item doubles those that are there, and is above all ahead.
func subsetsOf(s uint64) []uint64 {
	got := []uint64{0}
	for _, n := range itemsOf(s) {
		for _, sub := range got {
			got = append(got, sub+1<<n)
		}
	}
	return got
}

func textOf(s uint64) string {
	text := ""
	for _, n := range itemsOf(s) {
		text += "," + strconv.Itoa(n)
	}
	return "{" + strings.TrimPrefix(text, ",") + "}"
}

// soon fails a test in which a call doesn't end.
func soon(t *testing.T, what string, do func()) {
	t.Helper()
	done := make(chan struct{})
	go func() {
		defer close(done)
		do()
	}()
	select {
	case <-done:
	case <-time.After(10 * time.Second):
		t.Fatalf("%s doesn't end", what)
	}
}

type pair[A, B any] struct {
	First  A
	Second B
}

// later asks for a sequence only when it is gone over: a call that makes all at once would not come back.
func later[T any](ask func() iter.Seq[T]) iter.Seq[T] {
	return func(yield func(T) bool) { ask()(yield) }
}

func pairs[A, B any](seq iter.Seq2[A, B]) iter.Seq[pair[A, B]] {
	return func(yield func(pair[A, B]) bool) {
		seq(func(a A, b B) bool { return yield(pair[A, B]{a, b}) })
	}
}

// checkBeginning: the first ones that a sequence tells are those wanted; it makes no more when no more is asked for.
func checkBeginning[T comparable](t *testing.T, what string, seq iter.Seq[T], want []T) {
	t.Helper()
	soon(t, what, func() {
		for n := 1; n <= len(want); n++ {
			var got []T
			seq(func(x T) bool {
				if len(got) > len(want) {
					panic(what + " goes on when no more is asked for")
				}
				got = append(got, x)
				return len(got) < n
			})
			if !slices.Equal(got, want[:n]) {
				t.Errorf("%s: the first %d are %v, not %v", what, n, got, want[:n])
				return
			}
		}
	})
}

// checkWhole: a sequence tells those wanted, then ends; and again, when it is gone over once more.
func checkWhole[T comparable](t *testing.T, what string, seq iter.Seq[T], want []T) {
	t.Helper()
	soon(t, what, func() {
		for range 2 {
			var got []T
			seq(func(x T) bool {
				got = append(got, x)
				return len(got) <= len(want)
			})
			if !slices.Equal(got, want) {
				t.Errorf("%s: %v, not %v", what, got, want)
				return
			}
		}
	})
	checkBeginning(t, what, seq, want[:min(len(want), 12)])
}

func name(call string, arguments ...any) string {
	var words []string
	for _, a := range arguments {
		switch x := a.(type) {
		case uint64:
			words = append(words, textOf(x))
		case int:
			words = append(words, strconv.Itoa(x))
		}
	}
	return call + "(" + strings.Join(words, " ") + ")"
}

// P2.1: items in whatever order and number; what isn't an item doesn't count.
func TestOf(t *testing.T) {
	for _, r := range []struct {
		items []int
		want  uint64
	}{
		{nil, 0}, {[]int{}, 0}, {[]int{0}, 1}, {[]int{0, 2}, 5}, {[]int{2, 0}, 5}, {[]int{3, 3, 3}, 8}, {[]int{63}, 1 << 63}, {[]int{63, 0, 32, 31}, 1<<63 | 1<<32 | 1<<31 | 1},
		{[]int{64}, 0}, {[]int{-1}, 0}, {[]int{65, 1, 128, -64, -63}, 2}, {[]int{math.MaxInt, 5, math.MinInt}, 32}, {[]int{1 << 32, 1<<32 + 1, -1 << 32, 256, 7}, 128},
	} {
		if got := set.Of(r.items...); got != r.want {
			t.Errorf("Of(%v): %v, not %v", r.items, itemsOf(got), itemsOf(r.want))
		}
	}
	for _, s := range sets() {
		items := itemsOf(s)
		if set.Of(items...) != s {
			t.Errorf("Of(%v): %v", items, itemsOf(set.Of(items...)))
		}
		slices.Reverse(items)
		items = append(items, items...)
		if set.Of(items...) != s {
			t.Errorf("Of(%v): %v", items, itemsOf(set.Of(items...)))
		}
	}
}

// P2.1: each item of each set; what isn't an item is in none.
func TestHasCount(t *testing.T) {
	for _, s := range sets() {
		items := itemsOf(s)
		for n := range 64 {
			if set.Has(s, n) != slices.Contains(items, n) {
				t.Errorf("%s is %v", name("Has", s, n), set.Has(s, n))
			}
		}
		for _, n := range []int{-1, -2, -63, -64, 64, 65, 127, 128, 256, 1 << 32, math.MaxInt, math.MinInt} {
			if set.Has(s, n) {
				t.Errorf("%s", name("Has", s, n))
			}
		}
		if set.Count(s) != len(items) {
			t.Errorf("%s is %d", name("Count", s), set.Count(s))
		}
	}
}

// P2.1: a number below 0 counts as 0, one above 64 as that.
func TestFull(t *testing.T) {
	for n, want := range map[int]uint64{
		0: 0, 1: 1, 2: 3, 3: 7, 31: 1<<31 - 1, 32: 1<<32 - 1, 33: 1<<33 - 1, 63: 1<<63 - 1, 64: all,
		-1: 0, -64: 0, math.MinInt: 0, 65: all, 128: all, 1 << 32: all, math.MaxInt: all,
	} {
		if got := set.Full(n); got != want {
			t.Errorf("Full(%d): %v", n, itemsOf(got))
		}
	}
	for n := range 65 {
		if got := set.Full(n); len(itemsOf(got)) != n || got>>(max(n, 1)-1) > 1 {
			t.Errorf("Full(%d): %v", n, itemsOf(got))
		}
	}
}

// P2.1: two sets held against each other, item by item; fewer items stand ahead, then the lower number.
func TestWithinApartCmp(t *testing.T) {
	ss := append(sets(), small()...)
	for _, a := range ss {
		for _, b := range append(ss, 0, a, ^a, a>>1, a|1<<40, a&^(1<<40)) {
			x, y := itemsOf(a), itemsOf(b)
			within, apart := true, true
			for _, n := range x {
				within = within && slices.Contains(y, n)
				apart = apart && !slices.Contains(y, n)
			}
			if set.Within(a, b) != within {
				t.Errorf("%s is not %v", name("Within", a, b), within)
			}
			if set.Apart(a, b) != apart {
				t.Errorf("%s is not %v", name("Apart", a, b), apart)
			}
			order := 0
			if len(x) < len(y) || len(x) == len(y) && a < b {
				order = -1
			} else if a != b {
				order = 1
			}
			if got := set.Cmp(a, b); got != order {
				t.Errorf("%s is %d, not %d", name("Cmp", a, b), got, order)
			}
		}
	}
}

// P2.1: the order of sets, by hand.
func TestCmpOrder(t *testing.T) {
	want := []uint64{0, 1, 2, 4, 1 << 63, 3, 5, 6, 1<<63 | 1, 3 << 62, 7, 13, all >> 1, all - 1, all}
	got := slices.Clone(want)
	slices.Reverse(got)
	slices.SortFunc(got, set.Cmp)
	if !slices.Equal(got, want) {
		t.Errorf("the order is %v, not %v", got, want)
	}
}

// P2.1, P2.3: items one by one, rising.
func TestItems(t *testing.T) {
	for _, s := range sets() {
		checkWhole(t, name("Items", s), set.Items(s), itemsOf(s))
	}
}

// P2.1, P2.3: subsets one by one, rising, the empty one and the set itself too.
func TestSubsets(t *testing.T) {
	checkWhole(t, "Subsets of 5", set.Subsets(5), []uint64{0, 1, 4, 5})
	checkWhole(t, "Subsets of 0", set.Subsets(0), []uint64{0})
	for _, s := range small() {
		checkWhole(t, name("Subsets", s), set.Subsets(s), subsetsOf(s))
	}
	checkWhole(t, "Subsets of 16 items", set.Subsets(0xFFFF<<48), subsetsOf(0xFFFF<<48))
}

// P2.3: of a great set no more subsets are made than are asked for.
func TestSubsetsOfGreatSets(t *testing.T) {
	checkBeginning(t, "Subsets of all items", later(func() iter.Seq[uint64] { return set.Subsets(all) }), []uint64{0, 1, 2, 3, 4, 5, 6, 7, 8})
	checkBeginning(t, "Subsets of the even items", later(func() iter.Seq[uint64] { return set.Subsets(0x5555555555555555) }), []uint64{0, 1, 4, 5, 16, 17, 20, 21, 64})
	checkBeginning(t, "Subsets of the last 40 items", later(func() iter.Seq[uint64] { return set.Subsets(0xFFFFFFFFFF000000) }), []uint64{0, 1 << 24, 2 << 24, 3 << 24, 4 << 24})
}

// P2.1, P2.3: what stands at a set's items, of lists shorter and longer than the items.
func TestPairs(t *testing.T) {
	for _, n := range []int{0, 1, 2, 3, 31, 32, 33, 63, 64, 65, 200} {
		list := make([]string, n)
		for i := range list {
			list[i] = "place " + strconv.Itoa(i)
		}
		for _, s := range sets() {
			var want []pair[int, string]
			for _, i := range itemsOf(s) {
				if i < n {
					want = append(want, pair[int, string]{i, list[i]})
				}
			}
			checkWhole(t, name("Pairs", s, n), pairs(set.Pairs(s, list)), want)
		}
	}
	checkWhole(t, "Pairs of a list that is nil", pairs(set.Pairs[int](all, nil)), nil)
}

// P2.1: things of any kind stand in the list.
func TestPairsOfAnyKind(t *testing.T) {
	atoms := []api.Atom{{Set: 1, Value: 5}, {Set: 2, Value: 6}, {Set: 3, Value: 7}}
	checkWhole(t, "Pairs of atoms", pairs(set.Pairs(6, atoms)), []pair[int, api.Atom]{{1, atoms[1]}, {2, atoms[2]}})
	numbers := []*int{new(int), new(int)}
	checkWhole(t, "Pairs of pointers", pairs(set.Pairs(2, numbers)), []pair[int, *int]{{1, numbers[1]}})
	for i, list := range set.Pairs(1, [][]int{{4, 5}}) {
		if i != 0 || !slices.Equal(list, []int{4, 5}) {
			t.Errorf("Pairs of lists: %d %v", i, list)
		}
	}
}

// The rules that hold everywhere: a list that is handed in stays, and may be written over behind the call.
func TestPairsKeepNoList(t *testing.T) {
	room := []int{10, 11, 12, 13, 14}
	seq := pairs(set.Pairs(all, room[:3]))
	want := []pair[int, int]{{0, 10}, {1, 11}, {2, 12}}
	checkWhole(t, "Pairs", seq, want)
	if !slices.Equal(room, []int{10, 11, 12, 13, 14}) {
		t.Errorf("the list is %v", room)
	}
	for i := range room {
		room[i] = -1
	}
	checkWhole(t, "Pairs of a list that is written over", seq, want)
	list := []int{20, 21, 22}
	for i, x := range set.Pairs(7, list) {
		if x != 20+i {
			t.Errorf("at %d stands %d", i, x)
		}
		list[0], list[1], list[2] = -1, -1, -1
	}
}

// P2.1: items as a list.
func TestList(t *testing.T) {
	for _, s := range sets() {
		if got := set.List(s); !slices.Equal(got, itemsOf(s)) {
			t.Errorf("%s is %v", name("List", s), got)
		}
	}
}

// P2.3: a list is new memory each time, its spare room too.
func TestListIsNew(t *testing.T) {
	for _, s := range []uint64{0, 1, 5, 7, all} {
		a, b := set.List(s), set.List(s)
		for _, l := range [][]int{a, b} {
			l = l[:cap(l)]
			for i := range l {
				l[i] = -7
			}
		}
		a = append(a, 1)
		b = append(b, 2)
		if a[len(a)-1] != 1 || !slices.Equal(set.List(s), itemsOf(s)) {
			t.Errorf("lists of %s share memory", textOf(s))
		}
	}
}

// P2.1: sets as text, by hand and one by one.
func TestText(t *testing.T) {
	for s, want := range map[uint64]string{
		0: "{}", 1: "{0}", 2: "{1}", 5: "{0,2}", 1 << 10: "{10}", 1 << 63: "{63}", 1<<9 | 1<<10: "{9,10}", 1<<63 | 1: "{0,63}",
		all: "{0,1,2,3,4,5,6,7,8,9,10,11,12,13,14,15,16,17,18,19,20,21,22,23,24,25,26,27,28,29,30,31,32,33,34,35,36,37,38,39,40,41,42,43,44,45,46,47,48,49,50,51,52,53,54,55,56,57,58,59,60,61,62,63}",
	} {
		if got := set.Text(s); got != want {
			t.Errorf("Text of %v: %q, not %q", itemsOf(s), got, want)
		}
	}
	for _, s := range sets() {
		if got := set.Text(s); got != textOf(s) {
			t.Errorf("Text of %v: %q", itemsOf(s), got)
		}
	}
}

// P2.2, P5 of the whole: a text that is told is read as its set.
func TestReadWhatIsTold(t *testing.T) {
	ss := append(sets(), small()...)
	for a := range 64 {
		for b := range a + 1 {
			ss = append(ss, 1<<a|1<<b)
		}
	}
	for _, s := range ss {
		if got, e := set.Read(textOf(s)); got != s || e != api.OK {
			t.Errorf("Read(%q): %v, %d", textOf(s), itemsOf(got), e)
		}
		if got, e := set.Read(set.Text(s)); got != s || e != api.OK {
			t.Errorf("Read(%q): %v, %d", set.Text(s), itemsOf(got), e)
		}
	}
}

// P2.1: what is no set's text is refused, and no set stands beside the error.
func TestReadOtherTexts(t *testing.T) {
	texts := []string{
		"", "{", "}", "}{", "{}{}", "{{}}", "{{}", "{}}", "{}x", "x{}", " {}", "{} ", "{}\n", "{}\x00", "\x00{}", "()", "[]", "<>",
		"0", "1", "{1", "1}", "0,1", "{0,1", "0,1}", "{1}}", "{{1}", "{1}{2}", "{1},{2}", "{1}x", "{1} ", "{1}\n",
		"{,}", "{1,}", "{,1}", "{1,,2}", "{,,}", "{1,2,}", "{,1,2}",
		"{00}", "{01}", "{010}", "{0,00}", "{0,01}", "{1,02}", "{063}", "{0001}", "{-0}", "{+0}",
		"{1,1}", "{0,0}", "{63,63}", "{2,1}", "{0,2,1}", "{1,0}", "{10,9}", "{63,0}", "{1,2,3,2}", "{5,6,5}",
		"{64}", "{65}", "{99}", "{100}", "{128}", "{256}", "{0,64}", "{63,64}", "{1000000}", "{4294967296}", "{4294967297}", "{18446744073709551616}", "{18446744073709551617}", "{9223372036854775808}", "{99999999999999999999999999999999}",
		"{-1}", "{+1}", "{-64}", "{-63}", "{1.0}", "{1.}", "{1e0}", "{0x1}", "{0b1}", "{0o1}", "{1_0}", "{1'}", "{a}", "{A}", "{1a}", "{a1}", "{!}", "{/}", "{:}", "{-9223372036854775808}",
		"{ 1}", "{1 }", "{1, 2}", "{1 ,2}", "{ }", "{\t}", "{1\n}", "{1;2}", "{1 2}", "{1.2}", "{1,2;3}", "{1\x00}", "{\x001}",
		"{\uff11}", "{\u0661}", "{\u00b2}", "\ufeff{}", "\uff5b1\uff5d", "{\xff}", "{1\uff0c2}", "{1\u201a2}",
		"{" + strings.Repeat("0", 100000) + "1}", "{" + strings.Repeat("1", 100000) + "}", "{" + strings.Repeat("1,", 100000) + "1}", strings.Repeat("{", 100000), strings.Repeat("}", 100000), "{" + strings.Repeat(",", 100000) + "}",
		textOf(all)[:len(textOf(all))-1] + ",64}", textOf(all) + textOf(all), strings.Replace(textOf(all), ",33", "", 1) + "{33}",
	}
	for _, text := range texts {
		if got, e := set.Read(text); got != 0 || e != api.ErrForm {
			t.Errorf("Read(%.40q): %v, %d", text, itemsOf(got), e)
		}
	}
}

// P2.2: whatever is read is told as the same text: all short texts of the bytes that matter.
func TestReadShortTexts(t *testing.T) {
	const bytes = "{},0169- "
	texts := []string{""}
	for from := 0; len(texts[from]) < 6; from++ {
		for i := range len(bytes) {
			texts = append(texts, texts[from]+bytes[i:i+1])
		}
	}
	for _, text := range texts {
		got, e := set.Read(text)
		if e == api.OK && textOf(got) != text || e != api.OK && (e != api.ErrForm || got != 0) {
			t.Errorf("Read(%q): %v, %d", text, itemsOf(got), e)
		}
	}
}

// P2.2: a text in which one byte is turned, lost or added is read as another set or not at all.
func TestReadTurnedTexts(t *testing.T) {
	rnd := rand.New(rand.NewPCG(3, 3))
	const bytes = "{},0123456789 +-\x00x"
	for _, s := range sets() {
		text := textOf(s)
		for range 200 {
			at, b := rnd.IntN(len(text)), rnd.IntN(len(bytes))
			one := bytes[b : b+1]
			for _, turned := range []string{text[:at] + one + text[at+1:], text[:at] + text[at+1:], text[:at] + one + text[at:], text[:at] + text[at:at+1] + text[at:]} {
				got, e := set.Read(turned)
				if e == api.OK && textOf(got) != turned || e != api.OK && (e != api.ErrForm || got != 0) {
					t.Errorf("Read(%q): %v, %d", turned, itemsOf(got), e)
				}
			}
		}
	}
}

// splitsOf are all pairs that are a set together, of which the first one has the set's least item.
func splitsOf(s uint64) []pair[uint64, uint64] {
	var got []pair[uint64, uint64]
	for _, sub := range subsetsOf(s) {
		if s != 0 && slices.Contains(itemsOf(sub), itemsOf(s)[0]) {
			got = append(got, pair[uint64, uint64]{sub, s - sub})
		}
	}
	return got
}

// P2.1, P2.3: pairs of sets that are a set together, each once; of the empty set none.
func TestSplits(t *testing.T) {
	type two = pair[uint64, uint64]
	checkWhole(t, "Splits of {}", pairs(set.Splits(0)), nil)
	checkWhole(t, "Splits of {5}", pairs(set.Splits(32)), []two{{32, 0}})
	checkWhole(t, "Splits of {63}", pairs(set.Splits(1<<63)), []two{{1 << 63, 0}})
	checkWhole(t, "Splits of {0,1,2}", pairs(set.Splits(7)), []two{{1, 6}, {3, 4}, {5, 2}, {7, 0}})
	checkWhole(t, "Splits of {1,3,4}", pairs(set.Splits(26)), []two{{2, 24}, {10, 16}, {18, 8}, {26, 0}})
	for _, s := range small() {
		checkWhole(t, name("Splits", s), pairs(set.Splits(s)), splitsOf(s))
	}
	checkBeginning(t, "Splits of all items", later(func() iter.Seq[two] { return pairs(set.Splits(all)) }), []two{{1, all - 1}, {3, all - 3}, {5, all - 5}, {7, all - 7}, {9, all - 9}})
}

// chosenOf are all subsets of n items, rising.
func chosenOf(s uint64, n int) []uint64 {
	var got []uint64
	for _, sub := range subsetsOf(s) {
		if len(itemsOf(sub)) == n {
			got = append(got, sub)
		}
	}
	return got
}

// P2.1, P2.3: all subsets of n items, rising; none of a number that there can't be.
func TestChoose(t *testing.T) {
	checkWhole(t, "Choose of {0,1,2}, 2", set.Choose(7, 2), []uint64{3, 5, 6})
	checkWhole(t, "Choose of {}, 0", set.Choose(0, 0), []uint64{0})
	checkWhole(t, "Choose of {}, 1", set.Choose(0, 1), nil)
	for _, s := range small() {
		count := len(itemsOf(s))
		for _, n := range []int{-1, -2, -64, count + 1, count + 2, 64, 65, 1 << 32, math.MaxInt, math.MinInt} {
			checkWhole(t, name("Choose", s, n), set.Choose(s, n), nil)
		}
		for n := range count + 1 {
			checkWhole(t, name("Choose", s, n), set.Choose(s, n), chosenOf(s, n))
		}
	}
}

// P2.1, P2.3: of great sets the first ones are at hand, and few of them end soon.
func TestChooseOfGreatSets(t *testing.T) {
	checkBeginning(t, "Choose of all items, 32", later(func() iter.Seq[uint64] { return set.Choose(all, 32) }), []uint64{0xFFFFFFFF, 0x17FFFFFFF, 0x1BFFFFFFF, 0x1DFFFFFFF, 0x1EFFFFFFF})
	checkBeginning(t, "Choose of the last 50 items, 2", later(func() iter.Seq[uint64] { return set.Choose(all&^(1<<14-1), 2) }), []uint64{3 << 14, 5 << 14, 6 << 14, 9 << 14, 10 << 14, 12 << 14, 17 << 14})
	var singles, others []uint64
	for n := range 64 {
		singles = append(singles, 1<<n)
		others = append(others, all-1<<(63-n))
	}
	checkWhole(t, "Choose of all items, 0", set.Choose(all, 0), []uint64{0})
	checkWhole(t, "Choose of all items, 1", set.Choose(all, 1), singles)
	checkWhole(t, "Choose of all items, 63", set.Choose(all, 63), others)
	checkWhole(t, "Choose of all items, 64", set.Choose(all, 64), []uint64{all})
	checkWhole(t, "Choose of all items, 65", set.Choose(all, 65), nil)
	var twos []uint64
	for high := range 64 {
		for low := range high {
			twos = append(twos, 1<<high|1<<low)
		}
	}
	checkWhole(t, "Choose of all items, 2", set.Choose(all, 2), twos)
}

// P2.3 and the rules that hold everywhere: what goes on may be gone over within itself, and be broken off and begun anew.
func TestSequencesGoTheirOwnWays(t *testing.T) {
	items, subsets, chosen := set.Items(0b1110), set.Subsets(5), set.Choose(7, 2)
	numbers := set.Pairs(3, []int{8, 9})
	splits := set.Splits(3)
	var got []uint64
	for i := range items {
		for j := range items {
			if j > i {
				break
			}
			got = append(got, uint64(10*i+j))
		}
	}
	for a := range subsets {
		for b := range subsets {
			got = append(got, 10*a+b)
		}
	}
	for a := range chosen {
		for b := range chosen {
			got = append(got, 10*a+b)
		}
	}
	for _, a := range numbers {
		for _, b := range numbers {
			got = append(got, uint64(10*a+b))
		}
	}
	for a := range splits {
		for _, b := range splits {
			got = append(got, 10*a+b)
		}
	}
	want := []uint64{
		11, 21, 22, 31, 32, 33,
		0, 1, 4, 5, 10, 11, 14, 15, 40, 41, 44, 45, 50, 51, 54, 55,
		33, 35, 36, 53, 55, 56, 63, 65, 66,
		88, 89, 98, 99,
		12, 10, 32, 30,
	}
	if !slices.Equal(got, want) {
		t.Errorf("%v, not %v", got, want)
	}
}

// P2 of the whole: the same arguments are answered the same, whatever was asked between.
func TestAnswersHangOnArguments(t *testing.T) {
	told := func() []string {
		var got []string
		for _, s := range small() {
			for n := range 4 {
				read, e := set.Read(set.Text(s)[:1] + "0}")
				got = append(got, set.Text(s), set.Text(set.Of(set.List(s)...)), set.Text(set.Full(n)), set.Text(read), strconv.Itoa(int(e)), strconv.FormatBool(set.Has(s, n)), strconv.Itoa(set.Count(s)+set.Cmp(s, 5)))
				for sub := range set.Choose(s, n) {
					got = append(got, set.Text(sub))
				}
			}
		}
		return got
	}
	first := told()
	for range 3 {
		if !slices.Equal(told(), first) {
			t.Error("the same arguments are answered otherwise")
		}
	}
}

// The rules that hold everywhere: items that are handed in stay, those behind the list's length too.
func TestOfLeavesItsItems(t *testing.T) {
	room := []int{5, 64, 5, -1, 2, 9}
	if got := set.Of(room[:5]...); got != 36 {
		t.Errorf("Of: %v", itemsOf(got))
	}
	if !slices.Equal(room, []int{5, 64, 5, -1, 2, 9}) {
		t.Errorf("the items are %v", room)
	}
}
