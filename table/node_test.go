package table

import (
	"cmp"
	"math/rand/v2"
	"testing"
)

// checkNode: the counts are right, the keys rise, and no side is too great for the other one.
func checkNode[K cmp.Ordered, V any](t *testing.T, n *node[K, V], above, below *K) {
	t.Helper()
	if n == nil {
		return
	}
	x, y := n.sides[left].len(), n.sides[right].len()
	if n.count != x+y+1 {
		t.Fatalf("%v: %d keys, not %d and %d and one", n.key, n.count, x, y)
	}
	if x+y > 1 && max(x, y) > mostOfSide*min(x, y) {
		t.Fatalf("%v: %d keys below it, %d above it", n.key, x, y)
	}
	if above != nil && n.key <= *above || below != nil && n.key >= *below {
		t.Fatalf("%v stands in another key's place", n.key)
	}
	checkNode(t, n.sides[left], above, &n.key)
	checkNode(t, n.sides[right], &n.key, below)
}

// P8.1: a table stays even, so that its calls are quick, in every order of calls.
func TestNodesStayEven(t *testing.T) {
	rnd := rand.New(rand.NewPCG(1, 1))
	for _, row := range []struct {
		keys func(i int) int
		puts int // of 4 calls
	}{
		{func(i int) int { return i }, 4}, {func(i int) int { return -i }, 4}, {func(i int) int { return (i % 2) * i }, 4},
		{func(int) int { return rnd.IntN(30) }, 2}, {func(int) int { return rnd.IntN(300) }, 2}, {func(int) int { return rnd.IntN(3000) }, 3}, {func(i int) int { return i / 3 }, 2},
	} {
		var x Table[int, int]
		for i := range 900 {
			if rnd.IntN(4) < row.puts {
				x.Put(row.keys(i), i)
			} else {
				x.Drop(row.keys(i))
			}
			checkNode(t, x.top, nil, nil)
		}
		for x.Len() > 0 {
			k, _ := x.Least()
			if rnd.IntN(3) == 0 {
				k = x.top.key
			}
			x.Drop(k)
			checkNode(t, x.top, nil, nil)
		}
	}
}

// P8.1: of all small tables, each key dropped leaves an even one.
func TestNodesOfSmallTables(t *testing.T) {
	var grow func(x *Table[int, int], depth int)
	grow = func(x *Table[int, int], depth int) {
		checkNode(t, x.top, nil, nil)
		for k := range 7 {
			y := x.Clone()
			if y.Drop(k) {
				checkNode(t, y.top, nil, nil)
			} else if depth > 0 {
				y.Put(k, depth)
				grow(y, depth-1)
			}
		}
	}
	grow(&Table[int, int]{}, 7)
}
