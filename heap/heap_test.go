// The tests of layer 13. Above each stands the promise that it holds the program to.
package heap_test

import (
	"iter"
	"math"
	"math/rand/v2"
	"runtime"
	"slices"
	"strings"
	"testing"
	"time"
	"weak"

	"saleroom/heap"
)

// thing is a key to stand by, and a name that tells it from others of the same key.
type thing struct{ key, name int }

// things are things of keys, named in turn.
func things(keys ...int) []thing {
	var all []thing
	for i, k := range keys {
		all = append(all, thing{k, i})
	}
	return all
}

// order tells whether one thing stands before another one.
type order func(a, b thing) bool

func bySize(a, b thing) bool { return a.key < b.key }

func less(a, b int) bool { return a < b }

// orders are some by which many things, few or none stand neither way.
func orders() map[string]order {
	return map[string]order{
		"by size": bySize, "the greatest first": func(a, b thing) bool { return a.key > b.key },
		"by thirds":   func(a, b thing) bool { return a.key/3 < b.key/3 },
		"even first":  func(a, b thing) bool { return a.key%2 == 0 && b.key%2 != 0 },
		"all alike":   func(a, b thing) bool { return false },
		"0 first":     func(a, b thing) bool { return a.key == 0 && b.key != 0 },
		"by last bit": func(a, b thing) bool { return a.key&3 > b.key&3 },
	}
}

// model is a heap as the document tells it: a list in order.
type model []thing

func (m *model) put(before order, x thing) {
	at := slices.IndexFunc(*m, func(y thing) bool { return before(x, y) })
	if at < 0 {
		at = len(*m)
	}
	*m = slices.Insert(*m, at, x)
}

func (m *model) pop() (thing, bool) {
	x, ok := m.top()
	if ok {
		*m = (*m)[1:]
	}
	return x, ok
}

func (m model) top() (thing, bool) {
	if len(m) == 0 {
		return thing{}, false
	}
	return m[0], true
}

// modelOf is the model of all things of a list, put one by one.
func modelOf(before order, all []thing) model {
	var m model
	for _, x := range all {
		m.put(before, x)
	}
	return m
}

// atRandom are things at random, of keys from 0 on below a bound.
func atRandom(rnd *rand.Rand, n, keys int) []thing {
	var all []thing
	for range n {
		all = append(all, thing{rnd.IntN(keys), len(all)})
	}
	return all
}

// checkList: a list is what it should be.
func checkList[T comparable](t *testing.T, what string, got, want []T) {
	t.Helper()
	if !slices.Equal(got, want) {
		t.Errorf("%s: %v, not %v", what, got, want)
	}
}

// checkAsk: a call answers a thing and whether it is there, as it should.
func checkAsk[T comparable](t *testing.T, what string, got T, ok bool, want T, is bool) {
	t.Helper()
	if got != want || ok != is {
		t.Errorf("%s: %v, %v; not %v, %v", what, got, ok, want, is)
	}
}

// checkHeap: a heap has what its model has, which is all taken out.
func checkHeap(t *testing.T, what string, h *heap.Heap[thing], m model) {
	t.Helper()
	if h.Len() != len(m) {
		t.Errorf("%s: there are %d, not %d", what, h.Len(), len(m))
	}
	checkList(t, what, slices.Collect(h.Drain()), m)
	if h.Len() != 0 {
		t.Errorf("%s: behind all there are %d", what, h.Len())
	}
}

// soon fails a test in which a call doesn't end.
func soon(t *testing.T, what string, do func()) {
	t.Helper()
	done := make(chan struct{})
	go func() {
		defer close(done)
		do()
	}()
	select {
	case <-done:
	case <-time.After(30 * time.Second):
		t.Fatalf("%s doesn't end", what)
	}
}

// once are things that come, of which it is told how often they were gone over, and how many were asked for.
func once[T any](all []T, begun, asked *int) iter.Seq[T] {
	return func(yield func(T) bool) {
		*begun++
		for _, x := range all {
			*asked++
			if !yield(x) {
				return
			}
		}
	}
}

// P13.2: the document's example.
func TestExample(t *testing.T) {
	h := heap.New(less)
	for _, n := range []int{3, 1, 2} {
		h.Put(n)
	}
	for want := 1; want <= 3; want++ {
		n, ok := h.Pop()
		checkAsk(t, "Pop", n, ok, want, true)
	}
	checkList(t, "Sorted", heap.Sorted(less, slices.Values([]int{3, 1, 2})), []int{1, 2, 3})
}

// checkEmpty: there is nothing in a heap, and so it stays.
func checkEmpty[T comparable](t *testing.T, h *heap.Heap[T]) {
	t.Helper()
	var none T
	for range 2 {
		x, ok := h.Top()
		checkAsk(t, "Top of none", x, ok, none, false)
		x, ok = h.Pop()
		checkAsk(t, "Pop of none", x, ok, none, false)
		if h.Len() != 0 {
			t.Errorf("of nothing there are %d", h.Len())
		}
		for x := range h.Drain() {
			t.Errorf("of nothing comes %v", x)
		}
	}
}

// P13.1: of nothing the first one is the zero one and false, of things of any type.
func TestEmpty(t *testing.T) {
	checkEmpty(t, heap.New(less))
	checkEmpty(t, heap.New(bySize))
	checkEmpty(t, heap.New(func(a, b string) bool { return a < b }))
	checkEmpty(t, heap.New(func(a, b *int) bool { return *a < *b }))
	checkEmpty(t, heap.New(func(a, b [2]string) bool { return a[0] < b[0] }))
	checkEmpty(t, heap.New(func(a, b any) bool { return a == nil && b != nil }))
	checkEmpty(t, heap.From(less, slices.Values([]int(nil))))
	h := heap.From(bySize, slices.Values(things(3, 1, 2)))
	for range 3 {
		h.Pop()
	}
	checkEmpty(t, h)
	h.Put(thing{7, 7})
	for range h.Drain() {
	}
	checkEmpty(t, h)
	checkList(t, "Sorted", heap.Sorted(less, slices.Values([]int{})), nil)
	checkList(t, "First", heap.First(5, less, slices.Values([]int{})), nil)
	checkList(t, "Merge", slices.Collect(heap.Merge(less)), nil)
	checkList(t, "Merge", slices.Collect(heap.Merge(less, nil, []int{}, nil)), nil)
}

// P13.1: calls by hand, in turn, and what is there behind each.
func TestCallsByHand(t *testing.T) {
	h := heap.New(bySize)
	for i, r := range []struct {
		call string
		x    thing
		ok   bool
		len  int
	}{
		{"pop", thing{}, false, 0}, {"put", thing{5, 1}, true, 1}, {"top", thing{5, 1}, true, 1}, {"top", thing{5, 1}, true, 1}, {"put", thing{5, 2}, true, 2}, {"top", thing{5, 1}, true, 2},
		{"put", thing{4, 3}, true, 3}, {"top", thing{4, 3}, true, 3}, {"put", thing{5, 4}, true, 4}, {"pop", thing{4, 3}, true, 3}, {"pop", thing{5, 1}, true, 2}, {"put", thing{5, 1}, true, 3},
		{"pop", thing{5, 2}, true, 2}, {"pop", thing{5, 4}, true, 1}, {"top", thing{5, 1}, true, 1}, {"pop", thing{5, 1}, true, 0}, {"top", thing{}, false, 0}, {"pop", thing{}, false, 0},
		{"put", thing{0, 0}, true, 1}, {"top", thing{0, 0}, true, 1}, {"put", thing{math.MinInt, 1}, true, 2}, {"put", thing{math.MaxInt, 2}, true, 3}, {"pop", thing{math.MinInt, 1}, true, 2}, {"pop", thing{0, 0}, true, 1}, {"pop", thing{math.MaxInt, 2}, true, 0},
	} {
		switch r.call {
		case "put":
			h.Put(r.x)
		case "top":
			x, ok := h.Top()
			checkAsk(t, "Top", x, ok, r.x, r.ok)
		case "pop":
			x, ok := h.Pop()
			checkAsk(t, "Pop", x, ok, r.x, r.ok)
		}
		if h.Len() != r.len {
			t.Errorf("%d: there are %d, not %d", i, h.Len(), r.len)
		}
	}
}

// P13.1, P13.2: every order of calls, by orders of all kinds: the first one is at hand, and those that stand neither way come as they were put.
func TestCallsAtRandom(t *testing.T) {
	for name, before := range orders() {
		rnd := rand.New(rand.NewPCG(1, 13))
		for round := range 60 {
			h, keys, puts := heap.New(before), 1+rnd.IntN(12), 1+rnd.IntN(9)
			var m model
			for step := range 200 {
				switch n := rnd.IntN(10); {
				case n < puts:
					x := thing{rnd.IntN(keys), step}
					h.Put(x)
					m.put(before, x)
				case n == 9 && rnd.IntN(8) == 0:
					for x := range h.Drain() {
						want, is := m.pop()
						checkAsk(t, name+": Drain", x, true, want, is)
						if rnd.IntN(5) == 0 {
							break
						}
					}
				default:
					x, ok := h.Pop()
					want, is := m.pop()
					checkAsk(t, name+": Pop", x, ok, want, is)
				}
				x, ok := h.Top()
				want, is := m.top()
				checkAsk(t, name+": Top", x, ok, want, is)
				if h.Len() != len(m) || t.Failed() {
					t.Fatalf("%s, round %d, step %d: there are %d, not %d", name, round, step, h.Len(), len(m))
				}
			}
			checkHeap(t, name, h, m)
		}
	}
}

// P13.2: of all orders in which some things may be put, those that stand neither way come as they were put.
func TestAllOrdersOfPuts(t *testing.T) {
	for keys := range 4 * 4 * 4 * 4 * 4 * 4 {
		all := things(keys%4, keys/4%4, keys/16%4, keys/64%4, keys/256%4, keys/1024)
		want := slices.Clone(all)
		slices.SortStableFunc(want, func(a, b thing) int { return a.key - b.key })
		h := heap.New(bySize)
		for _, x := range all {
			h.Put(x)
		}
		checkHeap(t, "Put", h, want)
		checkHeap(t, "From", heap.From(bySize, slices.Values(all)), want)
		checkList(t, "Sorted", heap.Sorted(bySize, slices.Values(all)), want)
		if t.Failed() {
			t.Fatalf("of %v", all)
		}
	}
}

// P13.1, P13.2: From, Sorted and First of all that comes, which is gone over once.
func TestAllThatComes(t *testing.T) {
	rnd := rand.New(rand.NewPCG(2, 13))
	for name, before := range orders() {
		for n := range 80 {
			all := atRandom(rnd, n, 1+rnd.IntN(20))
			want := modelOf(before, all)
			var begun, asked int
			checkHeap(t, name+": From", heap.From(before, once(all, &begun, &asked)), want)
			checkList(t, name+": Sorted", heap.Sorted(before, once(all, &begun, &asked)), want)
			if begun != 2 || asked != 2*n {
				t.Errorf("%s: gone over %d times, %d were asked for, of %d", name, begun, asked, n)
			}
			for _, most := range []int{1, 2, n / 2, n - 1, n, n + 1, math.MaxInt} {
				if most > 0 {
					checkList(t, name+": First", heap.First(most, before, once(all, &begun, &asked)), want[:min(most, n)])
				}
			}
		}
	}
}

// P13.1: the first ones, by hand: none of a number below 1, all of one that is as great as may be.
func TestFirst(t *testing.T) {
	all := []int{5, 3, 9, 3, 1}
	for n, want := range map[int][]int{math.MinInt: nil, -1: nil, 0: nil, 1: {1}, 2: {1, 3}, 3: {1, 3, 3}, 4: {1, 3, 3, 5}, 5: {1, 3, 3, 5, 9}, 6: {1, 3, 3, 5, 9}, 1 << 40: {1, 3, 3, 5, 9}, math.MaxInt: {1, 3, 3, 5, 9}} {
		soon(t, "First", func() { checkList(t, "First", heap.First(n, less, slices.Values(all)), want) })
	}
	alike := func(a, b thing) bool { return false }
	checkList(t, "of things that are alike", heap.First(2, alike, slices.Values(things(3, 1, 2))), things(3, 1))
	checkList(t, "of two that come first", heap.First(2, bySize, slices.Values(things(3, 1, 2, 1, 1))), []thing{{1, 1}, {1, 3}})
}

// P13.1: things are taken out as they are asked for, and not ahead of that.
func TestDrain(t *testing.T) {
	h := heap.From(bySize, slices.Values(things(4, 2, 3, 2, 1)))
	seq := h.Drain()
	if h.Len() != 5 {
		t.Errorf("ahead of all there are %d", h.Len())
	}
	left := 5
	for x := range seq {
		left--
		if h.Len() != left {
			t.Errorf("behind %v there are %d, not %d", x, h.Len(), left)
		}
		if left == 2 {
			checkAsk(t, "the third one", x, true, thing{2, 3}, true)
			break
		}
	}
	x, ok := h.Top()
	checkAsk(t, "the next one", x, ok, thing{3, 2}, true)
	h.Put(thing{0, 9})
	checkList(t, "gone over again", slices.Collect(seq), []thing{{0, 9}, {3, 2}, {4, 0}})
	checkList(t, "and again", slices.Collect(seq), nil)
	h.Put(thing{6, 6})
	h.Put(thing{5, 5})
	checkList(t, "what was put since", slices.Collect(seq), []thing{{5, 5}, {6, 6}})
}

// P13.1: what isn't asked for isn't told any more.
func TestDrainStops(t *testing.T) {
	h := heap.From(less, slices.Values([]int{3, 1, 2, 4}))
	for _, most := range []int{1, 2} {
		told := 0
		h.Drain()(func(int) bool {
			told++
			if told > most {
				t.Error("it goes on when no more is asked for")
			}
			return told < most
		})
	}
	checkList(t, "what is left", slices.Collect(h.Drain()), []int{4})
}

// P13.1, P13.2: what is put on the way belongs to them, and what is taken out on the way doesn't.
func TestDrainOnTheWay(t *testing.T) {
	h := heap.New(bySize)
	h.Put(thing{10, 0})
	var got []thing
	for x := range h.Drain() {
		got = append(got, x)
		switch len(got) {
		case 1: // there is nothing left, but this one
			h.Put(thing{20, 1})
			h.Put(thing{10, 2})
		case 2:
			h.Put(thing{5, 3})
			h.Put(thing{20, 4})
			h.Put(thing{10, 5})
		case 4:
			x, ok := h.Pop()
			checkAsk(t, "Pop on the way", x, ok, thing{20, 1}, true)
			h.Put(thing{20, 6})
		}
	}
	checkList(t, "turned on the way", got, []thing{{10, 0}, {10, 2}, {5, 3}, {10, 5}, {20, 4}, {20, 6}})

	h = heap.From(bySize, slices.Values(things(1, 2, 3, 4, 5)))
	got = nil
	for x := range h.Drain() {
		got = append(got, x)
		for y := range h.Drain() { // within itself
			got = append(got, y)
			if len(got)%2 == 0 {
				break
			}
		}
	}
	checkList(t, "within itself", got, things(1, 2, 3, 4, 5))
}

// P13.1, P13.2: drained at random, with puts on the way.
func TestDrainAtRandom(t *testing.T) {
	rnd := rand.New(rand.NewPCG(3, 13))
	for name, before := range orders() {
		for range 30 {
			all := atRandom(rnd, rnd.IntN(30), 1+rnd.IntN(15))
			h, m, puts := heap.From(before, slices.Values(all)), modelOf(before, all), 0
			for x := range h.Drain() {
				want, is := m.pop()
				checkAsk(t, name+": Drain", x, true, want, is)
				for puts < 100 && rnd.IntN(2) == 0 {
					puts++
					y := thing{rnd.IntN(15), 1000 + puts}
					h.Put(y)
					m.put(before, y)
				}
			}
			if len(m) > 0 || h.Len() > 0 {
				t.Errorf("%s: there are %d, not %d", name, h.Len(), len(m))
			}
		}
	}
}

// mergedOf is what lists are together: each time the first one of those that stand first in what is left of each.
func mergedOf(before order, lists [][]thing) []thing {
	var all []thing
	left := slices.Clone(lists)
	for {
		first := -1
		for i, list := range left {
			if len(list) > 0 && (first < 0 || before(list[0], left[first][0])) {
				first = i
			}
		}
		if first < 0 {
			return all
		}
		all = append(all, left[first][0])
		left[first] = left[first][1:]
	}
}

// listsAtRandom are lists at random, some of them in order, each thing with a name of its own.
func listsAtRandom(rnd *rand.Rand, before order) [][]thing {
	var lists [][]thing
	for i := range rnd.IntN(8) {
		list := atRandom(rnd, rnd.IntN(12)*rnd.IntN(2), 1+rnd.IntN(9))
		for j := range list {
			list[j].name += 100 * i
		}
		if rnd.IntN(4) > 0 {
			list = modelOf(before, list)
		}
		lists = append(lists, list)
	}
	return lists
}

// P13.1: lists in order, by hand: what stands neither way comes by the order of the lists, and in that as it stands there.
func TestMergeByHand(t *testing.T) {
	for _, r := range []struct{ lists, want [][]thing }{
		{nil, nil}, {[][]thing{nil}, nil}, {[][]thing{nil, {}, nil}, nil},
		{[][]thing{things(1, 2, 3)}, [][]thing{things(1, 2, 3)}}, {[][]thing{nil, things(1, 2, 3), {}}, [][]thing{things(1, 2, 3)}},
		{[][]thing{{{1, 0}, {4, 1}, {9, 2}}, nil, {{2, 3}, {3, 4}, {10, 5}}, {{4, 6}}}, [][]thing{{{1, 0}, {2, 3}, {3, 4}, {4, 1}, {4, 6}, {9, 2}, {10, 5}}}},
		{[][]thing{{{1, 0}, {1, 1}, {1, 2}}, {{1, 3}, {1, 4}}, {{1, 5}}}, [][]thing{{{1, 0}, {1, 1}, {1, 2}, {1, 3}, {1, 4}, {1, 5}}}},
		{[][]thing{{{2, 0}, {2, 1}}, {{1, 2}, {2, 3}, {2, 4}}, {{1, 5}, {1, 6}, {2, 7}}}, [][]thing{{{1, 2}, {1, 5}, {1, 6}, {2, 0}, {2, 1}, {2, 3}, {2, 4}, {2, 7}}}},
		{[][]thing{{{3, 0}}, {{2, 1}}, {{1, 2}}, {{0, 3}}}, [][]thing{{{0, 3}, {1, 2}, {2, 1}, {3, 0}}}},
		{[][]thing{{{3, 0}, {1, 1}}, {{2, 2}, {5, 3}, {0, 4}}}, [][]thing{{{2, 2}, {3, 0}, {1, 1}, {5, 3}, {0, 4}}}}, // in no order
		{[][]thing{{{9, 0}, {0, 1}, {0, 2}}, {{9, 3}, {0, 4}}}, [][]thing{{{9, 0}, {0, 1}, {0, 2}, {9, 3}, {0, 4}}}},
		{[][]thing{{{5, 0}, {1, 1}}, {{4, 2}, {5, 3}, {1, 4}}, {{5, 5}}}, [][]thing{{{4, 2}, {5, 0}, {1, 1}, {5, 3}, {1, 4}, {5, 5}}}},
	} {
		checkList(t, "Merge", slices.Collect(heap.Merge(bySize, r.lists...)), slices.Concat(r.want...))
	}
}

// P13.1, P13.2: lists at random, in order and not, by orders of all kinds.
func TestMergeAtRandom(t *testing.T) {
	rnd := rand.New(rand.NewPCG(4, 13))
	for name, before := range orders() {
		for range 400 {
			lists := listsAtRandom(rnd, before)
			want := mergedOf(before, lists)
			checkList(t, name, slices.Collect(heap.Merge(before, lists...)), want)
			var inOrder [][]thing
			for _, list := range lists {
				inOrder = append(inOrder, modelOf(before, list))
			}
			checkList(t, name+": in order", slices.Collect(heap.Merge(before, inOrder...)), modelOf(before, slices.Concat(inOrder...)))
			if t.Failed() {
				t.Fatalf("of %v", lists)
			}
		}
	}
}

// P13.1: what is merged goes on as long as more is asked for, and may be gone over again, within itself too.
func TestMergeAgain(t *testing.T) {
	lists := [][]int{{1, 4, 9}, nil, {2, 3, 10}, {4}}
	want := []int{1, 2, 3, 4, 4, 9, 10}
	seq := heap.Merge(less, lists...)
	for n := range len(want) {
		var got []int
		seq(func(x int) bool {
			if len(got) > n {
				t.Error("it goes on when no more is asked for")
			}
			got = append(got, x)
			return len(got) <= n
		})
		checkList(t, "the first ones", got, want[:n+1])
	}
	for range seq {
		checkList(t, "within itself", slices.Collect(seq), want)
	}
	checkList(t, "behind all", slices.Collect(seq), want)
}

// P13.1: no more is made than is asked for: for the first thing no list is gone over to its end.
func TestMergeMakesNoMore(t *testing.T) {
	looked := 0
	before := func(a, b int) bool {
		looked = max(looked, a, b)
		return a < b
	}
	var lists [][]int
	for i := range 10 {
		lists = append(lists, []int{i, i + 100, i + 200, i + 300})
	}
	seq := heap.Merge(before, lists...)
	if looked >= 100 {
		t.Errorf("%d is looked at ahead of all", looked)
	}
	for range seq {
		break
	}
	if looked >= 200 {
		t.Errorf("%d is looked at for the first one", looked)
	}
}

// The rules that hold everywhere: lists stay, the memory behind their length too, and may be written over behind the call.
func TestArguments(t *testing.T) {
	rnd := rand.New(rand.NewPCG(5, 13))
	for range 100 {
		lists := listsAtRandom(rnd, bySize)
		want := mergedOf(bySize, lists)
		var rooms, kept [][]thing
		for i, list := range lists {
			rooms = append(rooms, append(slices.Clone(list), thing{-1, -1}, thing{-2, -2}))
			kept = append(kept, slices.Clone(rooms[i]))
			lists[i] = rooms[i][:len(list)]
		}
		seq := heap.Merge(bySize, lists...)
		checkList(t, "Merge", slices.Collect(seq), want)
		for i, room := range rooms {
			checkList(t, "what was handed in", room, kept[i])
			if len(lists[i]) != len(room)-2 {
				t.Error("Merge turns the lists it is handed")
			}
		}
		for range seq {
			for i, room := range rooms {
				clear(room)
				lists[i] = nil
			}
			break
		}
		checkList(t, "behind it", slices.Collect(seq), want)
	}
}

// The rules that hold everywhere: what is answered is new memory, spare room too.
func TestAnswersAreNew(t *testing.T) {
	all := things(3, 1, 2, 1, 0, 7, 7, 5)
	want := modelOf(bySize, all)
	for what, made := range map[string]func() []thing{
		"Sorted": func() []thing { return heap.Sorted(bySize, slices.Values(all)) },
		"First":  func() []thing { return heap.First(3, bySize, slices.Values(all)) },
		"Merge":  func() []thing { return slices.Collect(heap.Merge(bySize, want)) },
	} {
		one, other := made(), made()
		clear(one[:cap(one)])
		checkList(t, what, other, want[:len(other)])
		checkList(t, what+" once more", made(), want[:len(other)])
	}
	checkList(t, "what was handed in", all, things(3, 1, 2, 1, 0, 7, 7, 5))
}

// P13.1: heaps of one order, and what is merged, go their own ways.
func TestHeapsGoTheirOwnWays(t *testing.T) {
	one, other := heap.New(less), heap.New(less)
	one.Put(1)
	other.Put(2)
	third := heap.From(less, one.Drain())
	one.Put(5)
	third.Put(0)
	checkList(t, "the first one", slices.Collect(one.Drain()), []int{5})
	checkList(t, "the second one", slices.Collect(other.Drain()), []int{2})
	checkList(t, "one of what was in the first one", slices.Collect(third.Drain()), []int{0, 1})
}

// P13.1: things of any type are kept as they are.
func TestThingsOfAnyType(t *testing.T) {
	a, b := 2, 1
	pointers := heap.From(func(a, b *int) bool { return *a < *b }, slices.Values([]*int{&a, &b}))
	p, ok := pointers.Pop()
	checkAsk(t, "a pointer", p, ok, &b, true)
	p, ok = pointers.Pop()
	checkAsk(t, "another pointer", p, ok, &a, true)
	texts := heap.Sorted(func(a, b string) bool { return len(a) < len(b) }, strings.SplitSeq("three one two four o", " "))
	checkList(t, "texts by length", texts, []string{"o", "one", "two", "four", "three"})
	lists := heap.Sorted(func(a, b []int) bool { return len(a) < len(b) }, slices.Values([][]int{{1, 2}, nil, {3}}))
	if len(lists) != 3 || lists[0] != nil || lists[1][0] != 3 || len(lists[2]) != 2 {
		t.Errorf("lists by length: %v", lists)
	}
	calls := heap.First(1, func(a, b func() int) bool { return a() < b() }, slices.Values([]func() int{func() int { return 4 }, func() int { return 3 }}))
	if len(calls) != 1 || calls[0]() != 3 {
		t.Errorf("calls by what they answer: %d", len(calls))
	}
	nothing := heap.New(func(a, b struct{}) bool { return false })
	nothing.Put(struct{}{})
	nothing.Put(struct{}{})
	if _, ok := nothing.Pop(); !ok || nothing.Len() != 1 {
		t.Error("things without anything in them")
	}
}

// P13.2: where only some stand one before the other, as sets within sets, they come as they were put, if that is in order.
func TestSomeStandNeitherWay(t *testing.T) {
	within := func(a, b uint8) bool { return a&^b == 0 && a != b }
	var all []uint8
	for n := range 9 {
		for s := range 256 {
			if strings.Count(string(bitsOf(uint8(s))), "1") == n {
				all = append(all, uint8(s))
			}
		}
	}
	checkList(t, "Sorted", heap.Sorted(within, slices.Values(all)), all)
	checkList(t, "First", heap.First(100, within, slices.Values(all)), all[:100])
	checkList(t, "Merge", slices.Collect(heap.Merge(within, all[:1], all[1:9], all[9:])), all)
}

func bitsOf(s uint8) []byte {
	var bits []byte
	for ; s > 0; s /= 2 {
		bits = append(bits, '0'+s%2)
	}
	return bits
}

// P1 of the whole: by a call that is no order, all calls end too, and none panics.
func TestNoOrder(t *testing.T) {
	rnd := rand.New(rand.NewPCG(6, 13))
	for name, before := range map[string]func(a, b int) bool{
		"always": func(a, b int) bool { return true }, "not behind": func(a, b int) bool { return a <= b }, "at random": func(a, b int) bool { return rnd.IntN(2) == 0 },
		"in a ring": func(a, b int) bool { return (b-a+9)%9 < 4 }, "no numbers": func(a, b int) bool { return math.NaN() < float64(a-b) },
	} {
		soon(t, "a call by "+name, func() {
			h := heap.New(before)
			for n := range 300 {
				h.Put(n % 9)
				h.Top()
				if n%3 == 0 {
					h.Pop()
				}
			}
			for range h.Drain() {
			}
			all := slices.Repeat([]int{1, 5, 3, 8, 2}, 50)
			heap.Sorted(before, slices.Values(all))
			heap.First(7, before, slices.Values(all))
			for range heap.Merge(before, all, nil, all[:30], all[7:]) {
			}
		})
	}
}

// P13.1: what was taken out is forgotten, while the heap goes on.
func TestWhatIsTakenOutIsForgotten(t *testing.T) {
	type big struct {
		key  int
		room [1 << 16]byte
	}
	h := heap.New(func(a, b *big) bool { return a.key < b.key })
	var taken []weak.Pointer[big]
	put := func(key int) {
		x := &big{key: key}
		taken = append(taken, weak.Make(x))
		h.Put(x)
	}
	for key := range 40 {
		put(key * 7 % 40)
	}
	for range 15 {
		h.Pop()
	}
	for x := range h.Drain() {
		if x.key == 29 {
			break
		}
	}
	forgotten := func(most int) int {
		runtime.GC()
		n := 0
		for _, p := range taken {
			x := p.Value()
			if x == nil {
				n++
			} else if x.key < most {
				t.Errorf("%d is kept behind its Pop", x.key)
			}
		}
		return n
	}
	if n := forgotten(30); n != 30 || h.Len() != 10 {
		t.Errorf("%d are forgotten of 40, and there are %d", n, h.Len())
	}
	put(50)
	for range h.Drain() {
	}
	if n := forgotten(51); n != 41 {
		t.Errorf("%d are forgotten of 41, when none is left", n)
	}
	runtime.KeepAlive(h)
}

// P13.1: great heaps, put in orders that rise, fall, neither, and of things that are all alike; each call is quick.
func TestGreatHeaps(t *testing.T) {
	const n = 1 << 18
	for name, key := range map[string]func(i int) int{
		"rising": func(i int) int { return i }, "falling": func(i int) int { return n - i }, "mixed": func(i int) int { return i * 40503 % n }, "alike": func(i int) int { return 7 }, "of two kinds": func(i int) int { return i % 2 },
	} {
		soon(t, "a great heap, "+name, func() {
			h, puts := heap.New(bySize), 0
			put := func(key int) {
				h.Put(thing{key, puts})
				puts++
			}
			for i := range n {
				put(key(i))
				if i%2 == 1 { // some go out and in again, and so behind those of the same key
					x, _ := h.Pop()
					put(x.key)
				}
			}
			last := thing{math.MinInt, 0}
			for range n {
				x, ok := h.Pop()
				if !ok || x.key < last.key || x.key == last.key && x.name <= last.name {
					t.Errorf("%s: %v behind %v", name, x, last)
					return
				}
				last = x
			}
			if h.Len() != 0 {
				t.Errorf("%s: %d are left", name, h.Len())
			}
		})
	}
}

// P13.1: long lists, and many of them, are merged, sorted and asked for their first ones.
func TestLongLists(t *testing.T) {
	const n = 1 << 16
	soon(t, "a call of long lists", func() {
		var lists [][]int
		var all []int
		for i := range n {
			lists = append(lists, []int{n - i, 2*n - i, 3*n + i%3})
			all = append(all, i*40503%n)
		}
		merged := slices.Collect(heap.Merge(less, lists...))
		if len(merged) != 3*n || !slices.IsSorted(merged) {
			t.Errorf("many lists: %d", len(merged))
		}
		sorted := heap.Sorted(less, slices.Values(all))
		for i, x := range sorted {
			if x != i {
				t.Errorf("at place %d stands %d", i, x)
				return
			}
		}
		if len(sorted) != n || !slices.Equal(heap.First(n/2, less, slices.Values(all)), sorted[:n/2]) {
			t.Errorf("of a long list %d are sorted", len(sorted))
		}
		if got := slices.Collect(heap.Merge(less, sorted, sorted)); len(got) != 2*n || !slices.IsSorted(got) {
			t.Errorf("of two long lists come %d", len(got))
		}
	})
}

// P2 of the whole: the same calls are answered the same.
func TestAnswersHangOnCalls(t *testing.T) {
	rnd := rand.New(rand.NewPCG(7, 13))
	for name, before := range orders() {
		lists := listsAtRandom(rnd, before)
		all := slices.Concat(lists...)
		sorted, merged := heap.Sorted(before, slices.Values(all)), slices.Collect(heap.Merge(before, lists...))
		for range 5 {
			checkList(t, name+": Sorted once more", heap.Sorted(before, slices.Values(all)), sorted)
			checkList(t, name+": Merge once more", slices.Collect(heap.Merge(before, lists...)), merged)
		}
	}
}
