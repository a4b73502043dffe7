// The tests of layer 4. Above each stands the promise that it holds the program to.
package device_test

import (
	"bytes"
	"math"
	"math/rand/v2"
	"slices"
	"strings"
	"testing"
	"time"

	"saleroom/api"
	"saleroom/device"
)

// model is a device as the document tells it, byte by byte.
type model struct {
	capacity int
	regions  [2][]byte
	down     bool
	ahead    int // how many bytes on the power goes; below 0: never
	turned   int
}

// spend tells whether the power is there for one byte more.
func (m *model) spend() bool {
	if m.ahead == 0 {
		m.down = true
		return false
	}
	m.ahead = max(m.ahead-1, -1)
	m.turned++
	return true
}

func (m *model) append(region int, b []byte) api.Errno {
	if m.down {
		return api.ErrDown
	}
	if region != 0 && region != 1 {
		return api.ErrArg
	}
	if len(m.regions[region])+len(b) > m.capacity {
		return api.ErrFull
	}
	for _, x := range b {
		if !m.spend() {
			return api.ErrDown
		}
		m.regions[region] = append(m.regions[region], x)
	}
	return api.OK
}

func (m *model) truncate(region, n int) api.Errno {
	if m.down {
		return api.ErrDown
	}
	if region != 0 && region != 1 || n < 0 || n > len(m.regions[region]) {
		return api.ErrArg
	}
	for len(m.regions[region]) > n {
		if !m.spend() {
			return api.ErrDown
		}
		m.regions[region] = m.regions[region][:len(m.regions[region])-1]
	}
	return api.OK
}

func (m *model) load(region int, b []byte) {
	if region == 0 || region == 1 {
		m.regions[region] = slices.Clone(b[:min(len(b), m.capacity)])
	}
}

func (m *model) clone() *model {
	other := *m
	for i, b := range m.regions {
		other.regions[i] = slices.Clone(b)
	}
	return &other
}

// check holds all that a device tells of itself against what is wanted.
func check(t *testing.T, what string, d *device.Device, want *model) {
	t.Helper()
	for i, b := range want.regions {
		if got := d.Bytes(i); !bytes.Equal(got, b) || d.Len(i) != len(b) {
			t.Fatalf("%s: region %d is %.40q of %d bytes, not %.40q of %d", what, i, got, d.Len(i), b, len(b))
		}
	}
	if d.Capacity() != want.capacity || d.Down() != want.down || d.Turned() != want.turned {
		t.Fatalf("%s: capacity %d, down %v, turned %d, not %d, %v, %d", what, d.Capacity(), d.Down(), d.Turned(), want.capacity, want.down, want.turned)
	}
}

// made is a device whose regions have these bytes, of which none counts as turned.
func made(capacity int, first, second string) *device.Device {
	d := device.New(capacity)
	d.Load(0, []byte(first))
	d.Load(1, []byte(second))
	return d
}

// state is what made makes, with so many bytes turned, down or not.
func state(capacity int, first, second string, turned int, down bool) *model {
	return &model{capacity: capacity, regions: [2][]byte{[]byte(first), []byte(second)}, turned: turned, down: down}
}

// wrongRegions are numbers that are no region's.
func wrongRegions() []int {
	return []int{-1, 2, 3, -2, 255, 256, 257, 1 << 32, 1<<32 + 1, -1 << 32, math.MaxInt, math.MinInt, math.MinInt + 1}
}

// P4.1: capacities in the range, at its ends and out of it.
func TestNew(t *testing.T) {
	for capacity, want := range map[int]int{
		0: 0, 1: 1, 5: 5, 4096: 4096, 1<<20 - 1: 1<<20 - 1, 1 << 20: 1 << 20,
		-1: 0, -5: 0, math.MinInt: 0, -1 << 32: 0, 1<<20 + 1: 1 << 20, 1 << 21: 1 << 20, 1 << 32: 1 << 20, 1<<32 + 5: 1 << 20, math.MaxInt: 1 << 20,
	} {
		check(t, "New", device.New(capacity), state(want, "", "", 0, false))
	}
}

// P4.1: of numbers that are no region's there are no bytes.
func TestLenBytesOfOtherRegions(t *testing.T) {
	d := made(9, "abc", "de")
	for range 2 {
		for _, region := range wrongRegions() {
			if got := d.Bytes(region); len(got) != 0 || d.Len(region) != 0 {
				t.Errorf("region %d: %q of %d bytes", region, got, d.Len(region))
			}
		}
		d.Cut(0)
		d.Append(0, []byte("f"))
		check(t, "asked for other regions", d, state(9, "abc", "de", 0, true))
	}
}

// P4.1: bytes are appended to one region, behind those that are there.
func TestAppend(t *testing.T) {
	d := device.New(6)
	for i, r := range []struct {
		region        int
		b             string
		first, second string
		e             api.Errno
		turned        int
	}{
		{0, "", "", "", api.OK, 0},
		{0, "ab", "ab", "", api.OK, 2},
		{1, "x", "ab", "x", api.OK, 3},
		{0, "c", "abc", "x", api.OK, 4},
		{0, "defg", "abc", "x", api.ErrFull, 4},
		{0, "", "abc", "x", api.OK, 4},
		{0, "def", "abcdef", "x", api.OK, 7},
		{0, "", "abcdef", "x", api.OK, 7},
		{0, "g", "abcdef", "x", api.ErrFull, 7},
		{1, "yyyyyy", "abcdef", "x", api.ErrFull, 7},
		{1, "\x00\xff\x00", "abcdef", "x\x00\xff\x00", api.OK, 10},
		{2, "y", "abcdef", "x\x00\xff\x00", api.ErrArg, 10},
	} {
		if e := d.Append(r.region, []byte(r.b)); e != r.e {
			t.Errorf("row %d: %d, not %d", i, e, r.e)
		}
		check(t, "append", d, state(6, r.first, r.second, r.turned, false))
	}
	if e := d.Append(1, nil); e != api.OK {
		t.Errorf("append of nil: %d", e)
	}
}

// P4.1: all but the first bytes of one region are taken away.
func TestTruncate(t *testing.T) {
	d := made(6, "abcdef", "xyz")
	for i, r := range []struct {
		region, n     int
		first, second string
		e             api.Errno
		turned        int
	}{
		{0, 7, "abcdef", "xyz", api.ErrArg, 0},
		{0, 6, "abcdef", "xyz", api.OK, 0},
		{0, 4, "abcd", "xyz", api.OK, 2},
		{0, 5, "abcd", "xyz", api.ErrArg, 2},
		{0, -1, "abcd", "xyz", api.ErrArg, 2},
		{1, 4, "abcd", "xyz", api.ErrArg, 2},
		{1, 0, "abcd", "", api.OK, 5},
		{1, 0, "abcd", "", api.OK, 5},
		{1, 1, "abcd", "", api.ErrArg, 5},
		{0, math.MaxInt, "abcd", "", api.ErrArg, 5},
		{0, math.MinInt, "abcd", "", api.ErrArg, 5},
		{0, 1 << 32, "abcd", "", api.ErrArg, 5},
		{2, 0, "abcd", "", api.ErrArg, 5},
		{-1, 0, "abcd", "", api.ErrArg, 5},
		{0, 0, "", "", api.OK, 9},
	} {
		if e := d.Truncate(r.region, r.n); e != r.e {
			t.Errorf("row %d: %d, not %d", i, e, r.e)
		}
		check(t, "truncate", d, state(6, r.first, r.second, r.turned, false))
	}
}

// P4.1: bytes that are taken away are gone: others appended stand in their place.
func TestAppendBehindTruncate(t *testing.T) {
	d := made(8, "abcdef", "uvwxyz")
	d.Truncate(0, 2)
	d.Append(0, []byte("X"))
	check(t, "truncate, append", d, state(8, "abX", "uvwxyz", 5, false))
	d.Truncate(1, 0)
	d.Append(1, []byte("12345678"))
	check(t, "truncate, append", d, state(8, "abX", "12345678", 19, false))
}

// P4.1, P1 of the whole: of several errors the one named first is answered, and nothing is turned.
func TestErrorsInOrder(t *testing.T) {
	long := make([]byte, 100)
	for _, region := range append(wrongRegions(), 0, 1) {
		d := made(3, "abc", "de")
		d.Cut(0)
		wrong := region != 0 && region != 1
		if e := d.Append(region, long); wrong && e != api.ErrArg || !wrong && e != api.ErrFull {
			t.Errorf("append of too many bytes to region %d with the power about to go: %d", region, e)
		}
		for _, n := range []int{-1, 4, math.MinInt, math.MaxInt} {
			if e := d.Truncate(region, n); e != api.ErrArg {
				t.Errorf("truncation of region %d to %d with the power about to go: %d", region, n, e)
			}
		}
		if e := d.Append(region, nil); wrong && e != api.ErrArg || !wrong && e != api.OK {
			t.Errorf("append of nothing to region %d with the power about to go: %d", region, e)
		}
		check(t, "refused", d, state(3, "abc", "de", 0, false))
		d.Append(1, []byte("f"))
		for _, b := range [][]byte{nil, {1}, long} {
			if e := d.Append(region, b); e != api.ErrDown {
				t.Errorf("append of %d bytes to region %d with the power gone: %d", len(b), region, e)
			}
		}
		for _, n := range []int{-1, 0, 1, 2, 3, 4, math.MinInt, math.MaxInt} {
			if e := d.Truncate(region, n); e != api.ErrDown {
				t.Errorf("truncation of region %d to %d with the power gone: %d", region, n, e)
			}
		}
		check(t, "refused with the power gone", d, state(3, "abc", "de", 0, true))
	}
}

// P4.2: of an append that is cut anywhere the first bytes are kept.
func TestCutOfAppend(t *testing.T) {
	const b = "\x00ABCDEFG\xff"
	for region := range 2 {
		for cut := range len(b) + 4 {
			d := made(20, "ab", "xyz")
			d.Cut(cut)
			kept, want := min(cut, len(b)), api.OK
			if cut < len(b) {
				want = api.ErrDown
			}
			if e := d.Append(region, []byte(b)); e != want {
				t.Errorf("append of %d bytes, cut at %d: %d", len(b), cut, e)
			}
			after := []string{"ab", "xyz"}
			after[region] += b[:kept]
			check(t, "an append that is cut", d, state(20, after[0], after[1], kept, cut < len(b)))
		}
	}
}

// P4.2: of a truncation that is cut anywhere the last bytes are gone.
func TestCutOfTruncate(t *testing.T) {
	for n := range 7 {
		for cut := range 9 {
			d := made(20, "abcdef", "xyz")
			d.Cut(cut)
			gone, want := min(cut, 6-n), api.OK
			if cut < 6-n {
				want = api.ErrDown
			}
			if e := d.Truncate(0, n); e != want {
				t.Errorf("truncation to %d, cut at %d: %d", n, cut, e)
			}
			check(t, "a truncation that is cut", d, state(20, "abcdef"[:6-gone], "xyz", gone, cut < 6-n))
		}
	}
}

// P4.1, P4.2: the document's examples.
func TestExamples(t *testing.T) {
	d := device.New(100)
	d.Cut(2)
	if e := d.Append(0, []byte("abc")); e != api.ErrDown {
		t.Errorf("append: %d", e)
	}
	check(t, "append", d, state(100, "ab", "", 2, true))
	d.Restore()
	d.Cut(1)
	if e := d.Truncate(0, 0); e != api.ErrDown {
		t.Errorf("truncate: %d", e)
	}
	check(t, "truncate", d, state(100, "a", "", 3, true))
}

// P4.1, P3 of the whole: a cut counts the bytes of all calls behind it, of both regions; what was answered OK is there behind it.
func TestCutOverManyCalls(t *testing.T) {
	for cut := range 12 {
		d := made(20, "abc", "")
		d.Cut(cut)
		m := state(20, "abc", "", 0, false)
		m.ahead = cut
		for i, call := range []func() (api.Errno, api.Errno){
			func() (api.Errno, api.Errno) { return d.Append(0, []byte("de")), m.append(0, []byte("de")) },
			func() (api.Errno, api.Errno) { return d.Append(0, make([]byte, 99)), m.append(0, make([]byte, 99)) },
			func() (api.Errno, api.Errno) { return d.Append(1, []byte("xyz")), m.append(1, []byte("xyz")) },
			func() (api.Errno, api.Errno) { return d.Append(1, nil), m.append(1, nil) },
			func() (api.Errno, api.Errno) { return d.Truncate(0, 1), m.truncate(0, 1) },
			func() (api.Errno, api.Errno) { return d.Truncate(0, 9), m.truncate(0, 9) },
			func() (api.Errno, api.Errno) { return d.Append(0, []byte("f")), m.append(0, []byte("f")) },
		} {
			if got, want := call(); got != want {
				t.Errorf("cut at %d, call %d: %d, not %d", cut, i, got, want)
			}
			check(t, "a cut", d, m)
		}
		if m.down != (cut < 10) {
			t.Errorf("cut at %d: down is %v", cut, m.down)
		}
	}
}

// P4.1: the power goes at the next byte only, not when so many are turned or when none is.
func TestCutGoesAtTheNextByte(t *testing.T) {
	d := made(9, "abc", "")
	d.Cut(0)
	for _, e := range []api.Errno{d.Append(0, nil), d.Append(1, []byte{}), d.Truncate(0, 3), d.Truncate(1, 0)} {
		if e != api.OK {
			t.Errorf("a call that turns nothing: %d", e)
		}
	}
	check(t, "Cut of 0", d, state(9, "abc", "", 0, false))
	d.Cut(2)
	if e := d.Append(1, []byte("xy")); e != api.OK {
		t.Errorf("an append of as many bytes as Cut said: %d", e)
	}
	check(t, "Cut of 2", d, state(9, "abc", "xy", 2, false))
	if e := d.Truncate(0, 2); e != api.ErrDown {
		t.Errorf("the next byte: %d", e)
	}
	check(t, "Cut of 2", d, state(9, "abc", "xy", 2, true))
}

// P4.1: the latest Cut counts, from its place on; below 0 the power never goes.
func TestLatestCut(t *testing.T) {
	for _, r := range []struct {
		cuts []int
		kept int
	}{
		{[]int{1, 4}, 4}, {[]int{4, 1}, 1}, {[]int{0, 5}, 5}, {[]int{5, 0}, 0}, {[]int{3, 3}, 3}, {[]int{1, -1}, 6}, {[]int{-1, 1}, 1}, {[]int{0, math.MinInt}, 6},
		{[]int{math.MaxInt}, 6}, {[]int{0, math.MaxInt}, 6}, {[]int{1 << 32}, 6}, {[]int{1<<32 + 2}, 6}, {[]int{-1 << 32}, 6}, {[]int{-2}, 6}, {[]int{6}, 6}, {nil, 6},
	} {
		d := device.New(10)
		for _, n := range r.cuts {
			d.Cut(n)
		}
		want := api.OK
		if r.kept < 6 {
			want = api.ErrDown
		}
		if e := d.Append(0, []byte("abcdef")); e != want {
			t.Errorf("cuts %v: %d, not %d", r.cuts, e, want)
		}
		check(t, "the latest cut", d, state(10, "abcdef"[:r.kept], "", r.kept, r.kept < 6))
	}
	d := device.New(10)
	d.Cut(5)
	d.Append(0, []byte("abc"))
	d.Cut(5)
	if e := d.Append(1, []byte("vwxyz")); e != api.OK {
		t.Errorf("five bytes on: %d", e)
	}
	d.Append(1, []byte("!"))
	check(t, "a cut from its place on", d, state(10, "abc", "vwxyz", 8, true))
}

// P4.1: the power is there again behind Restore alone, and then no cut lies ahead.
func TestRestore(t *testing.T) {
	d := device.New(10)
	d.Cut(1)
	d.Append(0, []byte("ab"))
	for _, n := range []int{-1, 0, 5} {
		d.Cut(n)
		check(t, "Cut with the power gone", d, state(10, "a", "", 1, true))
		if d.Append(0, []byte("c")) != api.ErrDown || d.Truncate(0, 0) != api.ErrDown {
			t.Error("Cut brings the power back")
		}
	}
	for _, n := range []int{-1, 0, 1} {
		d.Cut(n)
		d.Restore()
		check(t, "Restore", d, state(10, "a", "", d.Turned(), false))
		if d.Append(0, []byte("bcdef")) != api.OK || d.Truncate(0, 1) != api.OK {
			t.Errorf("behind Restore the cut of %d lies ahead", n)
		}
	}
	if d.Turned() != 31 {
		t.Errorf("turned: %d", d.Turned())
	}
	d = device.New(10)
	d.Cut(0)
	d.Restore()
	if e := d.Append(0, []byte("a")); e != api.OK {
		t.Errorf("restored while the power is there: %d", e)
	}
	d.Restore()
	check(t, "restored while the power is there", d, state(10, "a", "", 1, false))
}

// P4.1, P4.3: a region has what is loaded, as far as the capacity allows, down or not; that turns nothing and uses up no cut.
func TestLoad(t *testing.T) {
	for _, down := range []bool{false, true} {
		d := made(5, "abc", "xy")
		d.Cut(0)
		if down {
			d.Append(0, []byte("!"))
		}
		load := func(region int, b string, first, second string) {
			t.Helper()
			d.Load(region, []byte(b))
			check(t, "Load", d, state(5, first, second, 0, down))
		}
		load(0, "d", "d", "xy")
		load(1, "vwxyz", "d", "vwxyz")
		load(0, "abcdef", "abcde", "vwxyz")
		load(1, strings.Repeat("long", 1000), "abcde", "longl")
		for _, region := range wrongRegions() {
			load(region, "other", "abcde", "longl")
		}
		load(0, "", "", "longl")
		d.Load(1, nil)
		check(t, "Load of nil", d, state(5, "", "", 0, down))
		load(0, "ab", "ab", "")
		if e := d.Append(0, []byte("c")); e != api.ErrDown {
			t.Errorf("the cut is used up: %d", e)
		}
		d.Restore()
		if d.Append(0, []byte("cdef")) != api.ErrFull || d.Append(0, []byte("cde")) != api.OK {
			t.Error("append behind Load")
		}
		check(t, "append behind Load", d, state(5, "abcde", "", 3, false))
	}
	d := device.New(0)
	d.Load(0, []byte("a"))
	check(t, "Load with no capacity", d, state(0, "", "", 0, false))
}

// P4.1: a clone is the same in all, and neither of the two turns the other one behind it.
func TestClone(t *testing.T) {
	d := made(6, "abc", "xy")
	d.Append(0, []byte("d"))
	d.Truncate(0, 2)
	d.Cut(2)
	c := d.Clone()
	was := state(6, "ab", "xy", 3, false)
	check(t, "the clone", c, was)
	if d.Append(0, []byte("CD")) != api.OK || d.Append(0, []byte("E")) != api.ErrDown {
		t.Error("the cut of the one that is cloned")
	}
	d.Load(1, []byte("other"))
	check(t, "the one that is cloned", d, state(6, "abCD", "other", 5, true))
	check(t, "the clone behind it", c, was)
	if e := c.Append(0, []byte("123")); e != api.ErrDown {
		t.Errorf("the clone has no cut ahead: %d", e)
	}
	check(t, "the clone that is cut", c, state(6, "ab12", "xy", 5, true))
	check(t, "the one that is cloned, behind it", d, state(6, "abCD", "other", 5, true))
	gone := c.Clone()
	check(t, "a clone of what is down", gone, state(6, "ab12", "xy", 5, true))
	if gone.Append(0, nil) != api.ErrDown {
		t.Error("the power of a clone is back")
	}
	gone.Restore()
	if e := gone.Append(0, []byte("34")); e != api.OK {
		t.Errorf("append to a clone that is restored: %d", e)
	}
	if gone.Append(0, []byte("5")) != api.ErrFull || gone.Truncate(1, 0) != api.OK {
		t.Error("a clone of another capacity")
	}
	check(t, "a clone that is restored", gone, state(6, "ab1234", "", 9, false))
	check(t, "the first clone, behind it", c, state(6, "ab12", "xy", 5, true))
	check(t, "a clone of an empty one", device.New(7).Clone(), state(7, "", "", 0, false))
}

// P4.3: a region takes as many bytes as the greatest capacity, and not one more.
func TestGreatestCapacity(t *testing.T) {
	rnd := rand.New(rand.NewPCG(1, 1))
	b := make([]byte, 1<<20+1)
	for i := range b {
		b[i] = byte(rnd.Uint32())
	}
	m := &model{capacity: 1 << 20}
	d := device.New(math.MaxInt)
	if e := d.Append(0, b); e != api.ErrFull {
		t.Errorf("one byte too many: %d", e)
	}
	check(t, "one byte too many", d, m)
	if e := d.Append(0, b[:1<<20]); e != api.OK {
		t.Errorf("2^20 bytes: %d", e)
	}
	m.regions[0], m.turned = b[:1<<20], 1<<20
	check(t, "2^20 bytes", d, m)
	d.Load(1, b)
	m.regions[1] = b[:1<<20]
	check(t, "2^20 bytes loaded", d, m)
	for region := range 2 {
		if e := d.Append(region, b[:1]); e != api.ErrFull {
			t.Errorf("one byte more: %d", e)
		}
	}
	check(t, "one byte more", d, m)
	d.Cut(1<<20 + 7)
	if d.Truncate(0, 0) != api.OK || d.Truncate(1, 5) != api.ErrDown {
		t.Error("2^20 bytes taken away")
	}
	m = &model{capacity: 1 << 20, regions: [2][]byte{nil, b[:1<<20-7]}, down: true, turned: 1<<21 + 7}
	check(t, "2^20 bytes taken away", d, m)
}

// overwrite writes over bytes, the memory behind their length too.
func overwrite(b []byte) {
	b = b[:cap(b)]
	for i := range b {
		b[i] = 0xEE
	}
}

// P4.4: answers are new memory each time, spare room too.
func TestAnswersAreNew(t *testing.T) {
	d := made(100, "abc", "xyz")
	d.Append(0, []byte("defg"))
	d.Truncate(0, 5)
	c := d.Clone()
	first, second := d.Bytes(0), d.Bytes(0)
	overwrite(first)
	overwrite(append(first, 1))
	overwrite(d.Bytes(1))
	overwrite(d.Bytes(2))
	overwrite(c.Bytes(0))
	if string(second) != "abcde" {
		t.Errorf("two answers share memory: %q", second)
	}
	want := state(100, "abcde", "xyz", 6, false)
	check(t, "answers that are written over", d, want)
	check(t, "answers that are written over, of the clone", c, want)
	d.Append(0, []byte("fghijk"))
	d.Truncate(0, 0)
	d.Append(0, []byte("123456"))
	d.Load(1, []byte("987"))
	if string(second) != "abcde" {
		t.Errorf("what is answered goes on with the device: %q", second)
	}
	check(t, "a clone of what was turned", c, want)
}

// P4.4: what is handed in stays, and may be written over behind the call.
func TestArguments(t *testing.T) {
	room := []byte("abcdefgh-behind it")
	d := device.New(10)
	d.Append(0, room[:3])
	d.Load(1, room[3:6])
	d.Append(1, room[6:8])
	d.Append(0, nil)
	d.Append(0, room[:0])
	d.Load(0, d.Bytes(0))
	d.Append(0, room[:17])
	d.Append(5, room[:3])
	d.Load(5, room[:3])
	d.Cut(1)
	d.Append(0, room[:4])
	d.Restore()
	d.Truncate(1, 4)
	d.Append(1, []byte("X"))
	d.Truncate(0, 0)
	d.Append(0, []byte("12345"))
	if string(room) != "abcdefgh-behind it" {
		t.Errorf("what is handed in is turned to %q", room)
	}
	overwrite(room)
	long := []byte("a row that is longer than the capacity")
	d.Load(0, long)
	overwrite(long)
	check(t, "arguments that are written over", d, state(10, "a row that", "defgX", 3+2+1+1+1+4+5, false))
	c := d.Clone()
	b := []byte("?!")
	c.Truncate(1, 0)
	c.Append(1, b)
	overwrite(b)
	check(t, "an argument of a clone that is written over", c, state(10, "a row that", "?!", 17+7, false))
}

// P4.1: what was turned is counted whatever is asked, and what is refused isn't.
func TestTurned(t *testing.T) {
	d := device.New(4)
	for i, r := range []struct {
		call func()
		want int
	}{
		{func() { d.Append(0, []byte("abc")) }, 3},
		{func() { d.Append(0, []byte("abc")) }, 3},
		{func() { d.Append(9, []byte("abc")) }, 3},
		{func() { d.Truncate(0, 1) }, 5},
		{func() { d.Truncate(0, 2) }, 5},
		{func() { d.Load(1, []byte("abcd")) }, 5},
		{func() { d.Truncate(1, 4) }, 5},
		{func() { d.Cut(2); d.Truncate(1, 0) }, 7},
		{func() { d.Truncate(1, 0) }, 7},
		{func() { d.Append(1, []byte("a")) }, 7},
		{func() { d.Restore() }, 7},
		{func() { d.Cut(1); d.Append(1, []byte("ab")) }, 8},
		{func() { d.Restore(); d.Append(0, nil) }, 8},
		{func() { d.Clone().Append(0, []byte("a")) }, 8},
		{func() { d.Append(0, []byte("a")) }, 9},
	} {
		r.call()
		if d.Turned() != r.want {
			t.Fatalf("behind call %d: %d, not %d", i, d.Turned(), r.want)
		}
	}
}

// P4.1: what was turned is counted up to 2^40; a cut comes as far on as Cut said all the same.
func TestTurnedUpTo(t *testing.T) {
	if testing.Short() {
		t.Skip("so many bytes take some seconds")
	}
	t.Parallel()
	const capacity, most = 1 << 14, 1 << 40
	end := time.Now().Add(2 * time.Minute)
	b := make([]byte, capacity)
	d := device.New(capacity)
	d.Cut(most + 8)
	for n := 0; n < most; n += 2 * capacity {
		if n%(1<<30) == 0 && time.Now().After(end) {
			t.Skipf("only %d bytes were turned in time", n)
		}
		if d.Turned() != n {
			t.Fatalf("%d, not %d", d.Turned(), n)
		}
		d.Append(0, b)
		d.Truncate(0, 0)
	}
	if d.Turned() != most || d.Append(1, []byte("abcde")) != api.OK || d.Turned() != most || d.Clone().Turned() != most {
		t.Errorf("turned: %d", d.Turned())
	}
	if e := d.Append(0, []byte("xyzuv")); e != api.ErrDown {
		t.Errorf("append: %d", e)
	}
	check(t, "2^40 bytes turned", d, state(capacity, "xyz", "abcde", most, true))
	d.Restore()
	d.Cut(2)
	if e := d.Truncate(1, 0); e != api.ErrDown {
		t.Errorf("truncate: %d", e)
	}
	check(t, "more than 2^40 bytes turned", d, state(capacity, "xyz", "abc", most, true))
}

// pair is a device and what it has to be.
type pair struct {
	d *device.Device
	m *model
}

// step makes one call at random of both, and tells whether they answer the same.
func (p *pair) step(rnd *rand.Rand) bool {
	region := rnd.IntN(2)
	if rnd.IntN(12) == 0 {
		wrong := wrongRegions()
		region = wrong[rnd.IntN(len(wrong))]
	}
	b := make([]byte, rnd.IntN(rnd.IntN(12)+1))
	for i := range b {
		b[i] = byte(rnd.Uint32())
	}
	switch rnd.IntN(10) {
	case 0, 1, 2, 3:
		return p.d.Append(region, b) == p.m.append(region, b)
	case 4, 5:
		n := rnd.IntN(p.m.capacity+3) - 1
		if region == 0 || region == 1 {
			n = max(len(p.m.regions[region])+1-rnd.IntN(6), -1)
		}
		return p.d.Truncate(region, n) == p.m.truncate(region, n)
	case 6:
		n := rnd.IntN(14) - 3
		p.d.Cut(n)
		p.m.ahead = n
	case 7, 8:
		p.d.Restore()
		p.m.down, p.m.ahead = false, -1
	case 9:
		p.d.Load(region, b)
		p.m.load(region, b)
	}
	return true
}

// P4.1, P4.2, P4.3, P2 of the whole: in every order of calls a device and its clones are what the document tells, byte by byte.
func TestEveryOrderOfCalls(t *testing.T) {
	for seed := range uint64(400) {
		rnd := rand.New(rand.NewPCG(seed, 2))
		capacity := rnd.IntN(20)
		all := []pair{{device.New(capacity), &model{capacity: capacity, ahead: -1}}}
		for range 150 {
			p := &all[rnd.IntN(len(all))]
			if rnd.IntN(20) == 0 && len(all) < 5 {
				all = append(all, pair{p.d.Clone(), p.m.clone()})
				continue
			}
			if !p.step(rnd) {
				t.Fatalf("seed %d: another error", seed)
			}
			for _, p := range all {
				check(t, "calls at random", p.d, p.m)
			}
		}
	}
}
