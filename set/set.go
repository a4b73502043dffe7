// Package set is layer 2: see shared/doc/02-set.md.
package set

import (
	"cmp"
	"iter"
	"math/bits"
	"slices"
	"strconv"
	"strings"

	"saleroom/api"
)

// Of is the set of items.
func Of(items ...int) uint64 {
	var s uint64
	for _, n := range items {
		if isItem(n) {
			s |= 1 << n
		}
	}
	return s
}

// Has tells whether a set has an item.
func Has(s uint64, item int) bool { return isItem(item) && s>>item&1 == 1 }

// Count is how many items there are.
func Count(s uint64) int { return bits.OnesCount64(s) }

// Full is the set of the first items.
func Full(n int) uint64 {
	// Of all 64 items the shift leaves 0, from which 1 less goes round to all bits.
	return 1<<min(max(n, 0), api.MaxItems) - 1
}

// Within tells whether all items of a are in b.
func Within(a, b uint64) bool { return a&^b == 0 }

// Apart tells whether two sets have no item in common.
func Apart(a, b uint64) bool { return a&b == 0 }

// Cmp tells which set stands before the other one.
func Cmp(a, b uint64) int {
	return cmp.Or(cmp.Compare(Count(a), Count(b)), cmp.Compare(a, b))
}

// Items are a set's items, rising.
func Items(s uint64) iter.Seq[int] {
	return func(yield func(int) bool) {
		for rest := s; rest != 0; rest &= rest - 1 {
			if !yield(bits.TrailingZeros64(rest)) {
				return
			}
		}
	}
}

// Subsets are a set's subsets, rising.
func Subsets(s uint64) iter.Seq[uint64] {
	return func(yield func(uint64) bool) {
		// Less s is plus 1 with the bits outside of s filled up, so that the
		// carry runs through them to the next item of s.
		for sub := uint64(0); yield(sub) && sub != s; {
			sub = (sub - s) & s
		}
	}
}

// Pairs are a set's items, and what stands at their places in a list.
func Pairs[T any](s uint64, all []T) iter.Seq2[int, T] {
	// A copy, as the list may be written over while this goes on; only of
	// the places that s can ask for, as the list may be of any length.
	kept := slices.Clone(all[:min(len(all), bits.Len64(s))])
	return func(yield func(int, T) bool) {
		for i := range Items(s & Full(len(kept))) {
			if !yield(i, kept[i]) {
				return
			}
		}
	}
}

// List is a set's items as a list.
func List(s uint64) []int { return slices.Collect(Items(s)) }

// Text is a set as text.
func Text(s uint64) string {
	var words []string
	for i := range Items(s) {
		words = append(words, strconv.Itoa(i))
	}
	return "{" + strings.Join(words, ",") + "}"
}

// Read is the set of a text.
func Read(s string) (uint64, api.Errno) {
	inner, opens := strings.CutPrefix(s, "{")
	inner, closes := strings.CutSuffix(inner, "}")
	if !opens || !closes {
		return 0, api.ErrForm
	}
	if inner == "" {
		return 0, api.OK
	}
	var got uint64
	for word := range strings.SplitSeq(inner, ",") {
		item, ok := readItem(word)
		if !ok || got>>item != 0 { // items rise: none ahead may be this one or a greater one
			return 0, api.ErrForm
		}
		got |= 1 << item
	}
	return got, api.OK
}

// Splits are all pairs of sets that are a set together.
func Splits(s uint64) iter.Seq2[uint64, uint64] {
	return func(yield func(uint64, uint64) bool) {
		if s == 0 { // it has no least item, which a first one would have to have
			return
		}
		least := first(s, 1)
		for sub := range Subsets(s &^ least) {
			if !yield(sub|least, s&^(sub|least)) {
				return
			}
		}
	}
}

// Choose are all subsets of so many items.
func Choose(s uint64, n int) iter.Seq[uint64] {
	return func(yield func(uint64) bool) {
		if n < 0 || n > Count(s) {
			return
		}
		sub := first(s, n)
		for yield(sub) {
			// As in Subsets the carry runs to the next item of s that is free;
			// it runs out of the number only behind the greatest items of all.
			carried := ((sub | ^s) + first(sub, 1)) & s
			if carried == 0 {
				return
			}
			sub = carried | first(s, n-Count(carried))
		}
	}
}

func isItem(n int) bool { return n >= 0 && n < api.MaxItems }

// readItem is the item that a word tells just as Text would.
func readItem(word string) (int, bool) {
	n, err := strconv.Atoi(word)
	if err != nil || !isItem(n) || strconv.Itoa(n) != word {
		return 0, false
	}
	return n, true
}

// first is the set of the n least items of a set, or the set, if it has fewer.
func first(s uint64, n int) uint64 {
	rest := s
	for range n {
		rest &= rest - 1
	}
	return s &^ rest
}
