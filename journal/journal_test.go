// The tests of layer 7. Above each stands the promise that it holds the program to.
package journal_test

import (
	"bytes"
	"encoding/binary"
	"fmt"
	"hash/crc32"
	"math"
	"math/rand/v2"
	"slices"
	"testing"

	"saleroom/api"
	"saleroom/device"
	"saleroom/journal"
)

// framed is a frame as bytes, as the document tells it.
func framed(kind byte, body []byte) []byte {
	n := len(body)
	b := append([]byte{byte(n % 256), byte(n / 256), kind}, body...)
	s := crc32.Checksum(b, crc32.MakeTable(crc32.Castagnoli))
	return append(b, byte(s), byte(s>>8), byte(s>>16), byte(s>>24))
}

// headed is a head as bytes, whatever is told in it.
func headed(age, pieces uint64) []byte {
	return framed(1, binary.AppendUvarint(binary.AppendUvarint(nil, age), pieces))
}

// beginning is what a region begins with, of an age and a snapshot.
func beginning(age uint64, snap []byte) []byte {
	b := headed(age, uint64((len(snap)+4095)/4096))
	for part := range slices.Chunk(snap, 4096) {
		b = append(b, framed(2, part)...)
	}
	return append(b, framed(3, nil)...)
}

// region is a whole region's bytes.
func region(age uint64, snap string, recs ...string) []byte {
	b := beginning(age, []byte(snap))
	for _, rec := range recs {
		b = append(b, framed(4, []byte(rec))...)
	}
	return b
}

// piece is a frame that is read by hand.
type piece struct {
	at, kind int
	body     []byte
}

// frames are those that bytes begin with, and where they end.
func frames(b []byte) ([]piece, int) {
	var all []piece
	at := 0
	for len(b)-at >= 7 {
		n := int(b[at]) + 256*int(b[at+1])
		if n > 4096 || len(b)-at < n+7 || b[at+2] == 0 || !bytes.Equal(framed(b[at+2], b[at+3:at+3+n]), b[at:at+n+7]) {
			break
		}
		all = append(all, piece{at, int(b[at+2]), b[at+3 : at+3+n]})
		at += n + 7
	}
	return all, at
}

// model is what a journal has to tell, or a region that counts; age 0: it doesn't.
type model struct {
	region int
	age    uint64
	snap   []byte
	recs   [][]byte
	end    int
}

// whole is the whole number that bytes begin with, and what is left; false: none of as few bytes as may be.
func whole(b []byte) (uint64, []byte, bool) {
	n, size := binary.Uvarint(b)
	if size <= 0 || size > 1 && b[size-1] == 0 {
		return 0, nil, false
	}
	return n, b[size:], true
}

// regionOf is what a region has, as the document tells it.
func regionOf(b []byte) model {
	all, _ := frames(b)
	if len(all) == 0 || all[0].kind != 1 {
		return model{}
	}
	age, rest, ok := whole(all[0].body)
	pieces, rest, ok2 := whole(rest)
	if !ok || !ok2 || len(rest) > 0 || age == 0 || pieces > uint64(len(all)) {
		return model{}
	}
	m := model{age: age}
	k := int(pieces) + 1
	if len(all) <= k || all[k].kind != 3 || len(all[k].body) > 0 {
		return model{}
	}
	for _, f := range all[1:k] {
		if f.kind != 2 {
			return model{}
		}
		m.snap = append(m.snap, f.body...)
	}
	if m.end = all[k].at + 7; !bytes.Equal(b[:m.end], beginning(age, m.snap)) { // cut into other pieces than a snapshot is
		return model{}
	}
	for _, f := range all[k+1:] {
		if f.kind != 4 {
			break
		}
		m.recs = append(m.recs, f.body)
		m.end = f.at + len(f.body) + 7
	}
	return m
}

// modelOf is what a device's journal has, before it is opened; age 0: no region counts.
func modelOf(d *device.Device) model {
	m, other := regionOf(d.Bytes(0)), regionOf(d.Bytes(1))
	if other.age > m.age {
		m = other
		m.region = 1
	}
	return m
}

// made is a device whose regions have these bytes.
func made(capacity int, first, second []byte) *device.Device {
	d := device.New(capacity)
	d.Load(0, first)
	d.Load(1, second)
	return d
}

// opened is the journal of a device, which has to open.
func opened(t *testing.T, d *device.Device) *journal.Journal {
	t.Helper()
	j, e := journal.Open(d)
	if e != api.OK || j == nil {
		t.Fatalf("Open: error %d", e)
	}
	return j
}

func records(j *journal.Journal) [][]byte {
	var all [][]byte
	for i, rec := range j.Records() {
		if i != len(all) {
			return nil
		}
		all = append(all, rec)
	}
	return all
}

// differs tells in what a journal isn't as a model; "" of none.
func differs(j *journal.Journal, d *device.Device, m model) string {
	recs := records(j)
	same := slices.EqualFunc(recs, m.recs, bytes.Equal)
	switch {
	case j.Age() != m.age || j.Count() != len(m.recs):
		return fmt.Sprintf("age %d, %d records, not %d, %d", j.Age(), j.Count(), m.age, len(m.recs))
	case !bytes.Equal(j.Snapshot(), m.snap):
		return fmt.Sprintf("snapshot %.40q of %d bytes, not %.40q of %d", j.Snapshot(), len(j.Snapshot()), m.snap, len(m.snap))
	case !same:
		return fmt.Sprintf("records %.200q, not %.200q", recs, m.recs)
	case d.Len(m.region) != m.end || j.Room() != d.Capacity()-m.end:
		return fmt.Sprintf("region %d has %d bytes, room %d, not %d, %d", m.region, d.Len(m.region), j.Room(), m.end, d.Capacity()-m.end)
	}
	return ""
}

func check(t *testing.T, what string, j *journal.Journal, d *device.Device, m model) {
	t.Helper()
	if s := differs(j, d, m); s != "" {
		t.Errorf("%s: %s", what, s)
	}
}

func random(rnd *rand.Rand, n int) []byte {
	b := make([]byte, n)
	for i := range b {
		b[i] = byte(rnd.Uint32())
	}
	return b
}

// overwrite writes over bytes, the memory behind their length too.
func overwrite(b []byte) {
	b = b[:cap(b)]
	for i := range b {
		b[i] = 0xEE
	}
}

// P7.1: how many bytes a record takes, and what a region begins with.
func TestWeightHeavy(t *testing.T) {
	for n, want := range map[int]int{0: 7, 1: 8, 90: 97, 4096: 4103, 4097: 4104, -1: 7, math.MinInt: 7} {
		if got := journal.Weight(n); got != want {
			t.Errorf("Weight(%d): %d, not %d", n, got, want)
		}
	}
	for _, age := range []uint64{1, 2, 127, 128, 16383, 16384, 1 << 35, 1<<63 - 1, 1 << 63, math.MaxUint64} {
		for _, n := range []int{0, 1, 4095, 4096, 4097, 8191, 8192, 8193, 100000, 127 * 4096, 127*4096 + 1, 1 << 20} {
			if got, want := journal.Heavy(age, n), len(beginning(age, make([]byte, n))); got != want {
				t.Errorf("Heavy(%d, %d): %d, not %d", age, n, got, want)
			}
		}
	}
	for _, r := range []struct {
		age     uint64
		n, want int
	}{
		{1, 0, 16}, {0, 0, 16}, {1, -1, 16}, {1, -4096, 16}, {1, -5000, 16}, {128, math.MinInt, 17}, {1, math.MinInt + 1, 16}, {1, 4, 27}, {1, 5000, 5030},
		{1, 1 << 31, 1<<31 + 7<<19 + 7 + 1 + 3 + 7}, // 2^19 pieces, told in three bytes
	} {
		if got := journal.Heavy(r.age, r.n); got != r.want {
			t.Errorf("Heavy(%d, %d): %d, not %d", r.age, r.n, got, r.want)
		}
	}
}

// P7.1: the document's example; an empty device's journal.
func TestEmptyDevice(t *testing.T) {
	for _, capacity := range []int{16, 17, 120, 1 << 20} {
		d := device.New(capacity)
		j := opened(t, d)
		check(t, "an empty device", j, d, model{age: 1, end: 16})
		if b := d.Bytes(0); !bytes.HasPrefix(b, []byte{2, 0, 1, 1, 0}) || !bytes.Equal(b, region(1, "")) || d.Len(1) != 0 || d.Turned() != 16 {
			t.Errorf("capacity %d: regions %x, %x", capacity, b, d.Bytes(1))
		}
	}
}

// P7.1: Open's errors, nil beside them; what doesn't count is truncated, the first region first.
func TestOpenErrors(t *testing.T) {
	for capacity := range 16 {
		d := made(capacity, []byte("garbage that is there"), []byte("more of it"))
		for range 2 {
			if j, e := journal.Open(d); j != nil || e != api.ErrFull {
				t.Errorf("capacity %d: %v, error %d", capacity, j, e)
			}
			if d.Len(1) != 0 {
				t.Errorf("capacity %d: region 1 has %d bytes", capacity, d.Len(1))
			}
		}
	}
	for _, first := range [][]byte{nil, []byte("garbage"), region(3, "snap", "a"), append(region(3, "snap", "a"), 9)} {
		d := made(100, first, nil)
		d.Cut(0)
		d.Append(1, []byte("x"))
		if j, e := journal.Open(d); j != nil || e != api.ErrDown || !bytes.Equal(d.Bytes(0), first) {
			t.Errorf("the power has gone, region 0 is %q: %v, error %d", first, j, e)
		}
	}
	for cut := range 7 + 5 + 16 {
		d := made(100, []byte("garbage"), []byte("12345"))
		d.Cut(cut)
		if j, e := journal.Open(d); j != nil || e != api.ErrDown {
			t.Errorf("the power goes at %d: %v, error %d", cut, j, e)
		}
		first := "garbage"[:max(7-cut, 0)] + string(region(1, "")[:max(cut-12, 0)])
		second := "12345"[:min(max(12-cut, 0), 5)]
		if string(d.Bytes(0)) != first || string(d.Bytes(1)) != second {
			t.Errorf("the power goes at %d: %q, %q, not %q, %q", cut, d.Bytes(0), d.Bytes(1), first, second)
		}
		d.Restore()
		check(t, "opened behind it", opened(t, d), d, model{age: 1, end: 16})
	}
	d := made(60, append(region(9, "snap", "a"), "left"...), nil)
	d.Cut(2)
	if j, e := journal.Open(d); j != nil || e != api.ErrDown {
		t.Errorf("the power goes within what is left: %v, error %d", j, e)
	}
}

// opens holds what is opened of two regions against the document.
func opens(t *testing.T, what string, first, second []byte) {
	t.Helper()
	d := made(1<<14, first, second)
	m := modelOf(d)
	before := [2][]byte{first, second}
	j := opened(t, d)
	if m.age == 0 {
		check(t, what+": none counts", j, d, model{age: 1, end: 16})
		if !bytes.Equal(d.Bytes(0), region(1, "")) || d.Len(1) != 0 {
			t.Errorf("%s: none counts: %x, %x", what, d.Bytes(0), d.Bytes(1))
		}
		return
	}
	check(t, what, j, d, m)
	if other := 1 - m.region; !bytes.Equal(d.Bytes(m.region), before[m.region][:m.end]) || !bytes.Equal(d.Bytes(other), before[other]) {
		t.Errorf("%s: regions %x, %x of %x, %x", what, d.Bytes(0), d.Bytes(1), first, second)
	}
}

// P7.1: which regions count, by hand.
func TestRegionsThatCount(t *testing.T) {
	ready, one := framed(3, nil), region(1, "", "a", "bc", "")
	full, last := framed(2, make([]byte, 4096)), framed(2, []byte("a"))
	turned := func(b []byte, at int) []byte {
		b = slices.Clone(b)
		b[at] ^= 4
		return b
	}
	for _, r := range []struct {
		what   string
		b      []byte
		counts bool
	}{
		{"no snapshot", region(2, ""), true},
		{"records", one, true},
		{"a snapshot", region(7, "snap", "rec"), true},
		{"two pieces", region(7, string(make([]byte, 5000)), "rec", ""), true},
		{"two pieces, all of them whole", region(7, string(make([]byte, 8192))), true},
		{"the greatest age", region(math.MaxUint64, "snap", "rec"), true},
		{"an age of many bytes", region(1<<63, "", "rec"), true},
		{"a record of the greatest length", region(2, "", string(make([]byte, 4096)), "a"), true},
		{"nothing", nil, false},
		{"an age of 0", region(0, "", "rec"), false},
		{"an age of 0, then a head", append(headed(0, 0), one...), false},
		{"an age of 0, then its pieces", slices.Concat(headed(0, 1), last, ready), false},
		{"no head", append(ready, one...), false},
		{"another frame first", append(framed(5, nil), one...), false},
		{"only a head", headed(2, 0), false},
		{"a head, then records", append(headed(2, 0), framed(4, nil)...), false},
		{"not ready yet", region(2, "snap")[:9+11], false},
		{"half of ready", region(2, "snap")[:9+11+6], false},
		{"a byte of the head turned", turned(one, 3), false},
		{"a byte of ready turned", turned(one, 11), false},
		{"ready with a body", slices.Concat(headed(2, 0), framed(3, []byte{0}), one), false},
		{"ready with a body, and ready", slices.Concat(headed(2, 0), framed(3, []byte{0}), ready), false},
		{"a piece too few", slices.Concat(headed(2, 2), full, ready), false},
		{"a piece too many", slices.Concat(headed(2, 1), full, last, ready), false},
		{"a piece where none is told", slices.Concat(headed(2, 0), last, ready), false},
		{"more pieces than there can be", slices.Concat(headed(2, math.MaxUint64), full, ready), false},
		{"as many as an int goes round at", slices.Concat(headed(2, 1<<63), ready), false},
		{"as many as 32 bits go round at", slices.Concat(headed(2, 1<<32), ready), false},
		{"a record among the pieces", slices.Concat(headed(2, 2), full, framed(4, []byte("b")), ready), false},
		{"a head among the pieces", slices.Concat(headed(2, 1), headed(2, 1), last, ready), false},
		{"two heads", slices.Concat(headed(2, 0), headed(2, 0), ready), false},
		{"another kind of piece", slices.Concat(headed(2, 1), framed(5, []byte("a")), ready), false},
		{"an empty piece", slices.Concat(headed(1, 1), framed(2, nil), ready), false},
		{"two pieces of one byte", slices.Concat(headed(5, 2), last, last, ready, framed(4, nil)), false},
		{"a head of nothing", append(framed(1, nil), ready...), false},
		{"a head without pieces", append(framed(1, []byte{2}), ready...), false},
		{"a head with more", append(framed(1, []byte{2, 0, 0}), ready...), false},
		{"an age not as short as may be", append(framed(1, []byte{0x82, 0, 0}), ready...), false},
		{"pieces not as short as may be", append(framed(1, []byte{2, 0x80, 0}), ready...), false},
		{"an age that ends within it", append(framed(1, []byte{2, 0x80}), ready...), false},
		{"an age of more than 64 bits", append(framed(1, append(bytes.Repeat([]byte{0xFF}, 9), 2, 0)), ready...), false},
		{"an age of eleven bytes", append(framed(1, append(bytes.Repeat([]byte{0x80}, 10), 1, 0)), ready...), false},
	} {
		if got := regionOf(r.b).age > 0; got != r.counts {
			t.Errorf("%s: the test's own model tells %v", r.what, got)
		}
		for _, other := range [][]byte{nil, []byte("garbage"), region(1, "other", "x"), region(2, "", "y"), region(7, "last"), region(math.MaxUint64, "most")} {
			opens(t, r.what+", first", r.b, other)
			opens(t, r.what+", second", other, r.b)
		}
	}
}

// P7.1: pieces are those of a snapshot, if they are of MaxFrame bytes each, but the last one, that has what is left; else the region doesn't count.
func TestPieces(t *testing.T) {
	lengths := []int{0, 1, 2, 4095, 4096}
	for n := range 4 {
		for row := range int(math.Pow(5, float64(n))) {
			b, counts := headed(5, uint64(n)), true
			var told []int
			for i := range n {
				size := lengths[row%5]
				row /= 5
				told = append(told, size)
				b = append(b, framed(2, bytes.Repeat([]byte{byte(i + 1)}, size))...)
				counts = counts && size > 0 && (size == 4096 || i == n-1)
			}
			b = append(b, framed(3, nil)...)
			b = append(b, framed(4, []byte("rec"))...)
			if got := regionOf(b).age > 0; got != counts {
				t.Errorf("pieces of %v bytes: the test's own model tells %v", told, got)
			}
			what := fmt.Sprintf("pieces of %v bytes", told)
			opens(t, what+", first", b, nil)
			opens(t, what+", second", nil, b)
			opens(t, what+", behind an older one", region(4, "old", "x"), b)
		}
	}
}

// P7.1: of the same age region 0 is the journal's, else the one of the greater age.
func TestGreaterAge(t *testing.T) {
	for _, r := range []struct {
		first, second uint64
		want          string
	}{
		{1, 1, "first"}, {5, 5, "first"}, {math.MaxUint64, math.MaxUint64, "first"}, {2, 1, "first"}, {1, 2, "second"}, {127, 128, "second"}, {256, 255, "first"},
		{1 << 63, 1, "first"}, {1, 1 << 63, "second"}, {math.MaxInt64, 1 << 63, "second"}, {math.MaxUint64, 1, "first"}, {1, math.MaxUint64, "second"}, {1 << 32, 1, "first"}, {0, 1, "second"}, {1, 0, "first"},
	} {
		d := made(200, region(r.first, "first", "a"), region(r.second, "second", "b"))
		if j := opened(t, d); string(j.Snapshot()) != r.want || j.Age() != max(r.first, r.second) {
			t.Errorf("ages %d and %d: %q of age %d", r.first, r.second, j.Snapshot(), j.Age())
		}
	}
}

// P7.1: what is left behind the last record is taken away, whatever stands there; the other region stays.
func TestRest(t *testing.T) {
	one := framed(4, []byte("more"))
	for _, rest := range [][]byte{
		nil, {0}, {7, 0}, one[:1], one[:2], one[:10], bytes.Repeat([]byte{0xFF}, 50), make([]byte, 50), framed(5, nil), framed(255, []byte("x")), framed(0, nil),
		append(framed(5, nil), one...), append(framed(3, nil), one...), append(framed(2, nil), one...), append(framed(1, []byte{2, 0}), one...), append([]byte{0}, one...), region(9, "snap", "rec"),
	} {
		for _, recs := range [][]string{nil, {""}, {"a"}, {"a", "", "bcd"}} {
			b := append(region(3, "snap", recs...), rest...)
			opens(t, "rest", b, region(2, "old", "x"))
			opens(t, "rest", append(region(2, "old", "x"), "left"...), b)
			d := made(1000, b, nil)
			if opened(t, d); d.Len(0) != len(b)-len(rest) || d.Turned() != len(rest) {
				t.Errorf("rest %x: region 0 has %d bytes", rest, d.Len(0))
			}
		}
	}
}

// rough is a region of frames at random, most of them such as a journal has.
func rough(rnd *rand.Rand) []byte {
	var b []byte
	pieces := rnd.IntN(3)
	if rnd.IntN(8) > 0 {
		b = headed(rnd.Uint64N(4), uint64(pieces))
	}
	if rnd.IntN(6) == 0 {
		pieces += rnd.IntN(3) - 1
	}
	for i := range pieces {
		n := rnd.IntN(5)
		if i < pieces-1 && rnd.IntN(4) > 0 {
			n = 4096
		}
		b = append(b, framed(2, random(rnd, n))...)
	}
	if rnd.IntN(8) > 0 {
		b = append(b, framed(3, random(rnd, rnd.IntN(6)/5))...)
	}
	for range rnd.IntN(4) {
		b = append(b, framed(4, random(rnd, rnd.IntN(5)))...)
	}
	switch rnd.IntN(6) {
	case 0:
		b = append(b, framed(byte(rnd.IntN(7)), random(rnd, rnd.IntN(5)))...)
		b = append(b, framed(4, nil)...)
	case 1:
		b = b[:rnd.IntN(len(b)+1)]
	case 2:
		b = append(b, random(rnd, rnd.IntN(9))...)
	case 3:
		if len(b) > 0 {
			b[rnd.IntN(len(b))] ^= 1 << rnd.IntN(8)
		}
	}
	return b
}

// P7.1, P7.3: whatever bytes the device has, it is opened as the document tells, and opened twice the same as once.
func TestOpenAtRandom(t *testing.T) {
	rnd := rand.New(rand.NewPCG(1, 1))
	for range 4000 {
		opens(t, "at random", rough(rnd), rough(rnd))
		opens(t, "any bytes", random(rnd, rnd.IntN(40)), random(rnd, rnd.IntN(40)))
		d := made(1<<14, rough(rnd), rough(rnd))
		j := opened(t, d)
		first, second, turned := d.Bytes(0), d.Bytes(1), d.Turned()
		d.Cut(0)
		again := opened(t, d)
		m := modelOf(d)
		check(t, "opened once", j, d, m)
		check(t, "opened twice", again, d, m)
		if !bytes.Equal(d.Bytes(0), first) || !bytes.Equal(d.Bytes(1), second) || d.Turned() != turned {
			t.Errorf("opened twice: %x, %x, not %x, %x", d.Bytes(0), d.Bytes(1), first, second)
		}
	}
}

// P7.1: records are appended as frames of kind 4, up to the last byte that there is room for.
func TestAppend(t *testing.T) {
	d := made(5000, region(1, "old"), region(2, "snap", "a"))
	j := opened(t, d)
	want := []string{"a"}
	for _, rec := range []string{"", "bc", string(make([]byte, 255)), string(make([]byte, 256)), "\x00\xff", "", string(make([]byte, 4096))} {
		if e := j.Append([]byte(rec)); e != api.OK {
			t.Fatalf("Append of %d bytes: %d", len(rec), e)
		}
		want = append(want, rec)
		b := region(2, "snap", want...)
		if !bytes.Equal(d.Bytes(1), b) || !bytes.Equal(d.Bytes(0), region(1, "old")) || j.Room() != 5000-len(b) || j.Count() != len(want) {
			t.Fatalf("behind an Append of %d bytes: %d bytes, room %d, %d records", len(rec), d.Len(1), j.Room(), j.Count())
		}
		check(t, "appended", j, d, modelOf(d))
	}
	if e := j.Append(nil); e != api.OK || j.Count() != len(want)+1 {
		t.Errorf("Append of nil: %d", e)
	}
	check(t, "opened anew", opened(t, d), d, modelOf(d))
	for room := range 20 {
		for n := range 20 {
			d := device.New(16 + room)
			j := opened(t, d)
			want, end := api.OK, 16+n+7
			if n+7 > room {
				want, end = api.ErrFull, 16
			}
			if e := j.Append(make([]byte, n)); e != want || d.Len(0) != end || j.Room() != 16+room-end || j.Count() != len(records(j)) {
				t.Errorf("room of %d, a record of %d bytes: error %d, not %d", room, n, e, want)
			}
		}
	}
}

// P7.1, P1 of the whole: of several errors the one named first is answered; what is refused turns nothing.
func TestAppendErrors(t *testing.T) {
	for _, n := range []int{4097, 4098, 8192, 1 << 16, 1<<16 + 1, 1 << 20, 1<<20 + 7} {
		for _, capacity := range []int{20, 1 << 14, 1 << 20} {
			d := device.New(capacity)
			j := opened(t, d)
			if e := j.Append(make([]byte, n)); e != api.ErrLong {
				t.Errorf("Append of %d bytes: %d", n, e)
			}
			d.Cut(0)
			if e := j.Append(make([]byte, n)); e != api.ErrLong || d.Down() {
				t.Errorf("Append of %d bytes, the power about to go: %d", n, e)
			}
			d.Append(1, []byte{1})
			if e := j.Append(make([]byte, n)); e != api.ErrLong {
				t.Errorf("Append of %d bytes, the power gone: %d", n, e)
			}
			check(t, "refused", j, d, model{age: 1, end: 16})
		}
	}
	d := device.New(20)
	j := opened(t, d)
	d.Cut(0)
	if e := j.Append([]byte("abc")); e != api.ErrFull || d.Down() {
		t.Errorf("no room, the power about to go: %d", e)
	}
	d.Append(1, []byte{1})
	if e := j.Append([]byte("abc")); e != api.ErrDown {
		t.Errorf("no room, the power gone: %d", e)
	}
	check(t, "refused", j, d, model{age: 1, end: 16})
}

// P7.1: a snapshot stands in the place of all that is there, in the other region, in pieces.
func TestCompact(t *testing.T) {
	rnd := rand.New(rand.NewPCG(2, 2))
	d := device.New(20000)
	j := opened(t, d)
	for i, n := range []int{0, 1, 5, 4095, 4096, 4097, 8191, 8192, 8193, 12288, 12289, 0, 3} {
		for range i % 3 {
			j.Append(random(rnd, rnd.IntN(9)))
		}
		at, age := (i+1)%2, uint64(i+2)
		old, snap := d.Bytes(1-at), random(rnd, n)
		if e := j.Compact(snap); e != api.OK {
			t.Fatalf("Compact of %d bytes: %d", n, e)
		}
		want := beginning(age, snap)
		check(t, "compacted", j, d, model{region: at, age: age, snap: snap, end: len(want)})
		if !bytes.Equal(d.Bytes(at), want) || !bytes.Equal(d.Bytes(1-at), old) || len(want) != journal.Heavy(age, n) {
			t.Errorf("Compact of %d bytes: region %d has %d bytes", n, at, d.Len(at))
		}
		check(t, "opened anew", opened(t, d), d, modelOf(d))
		j.Append([]byte("behind it"))
		check(t, "appended behind it", j, d, modelOf(d))
	}
	if e := j.Compact(nil); e != api.OK || len(j.Snapshot()) != 0 || j.Age() != 15 || j.Count() != 0 {
		t.Errorf("Compact of nil: %d", e)
	}
}

// P7.1: the frames are appended one by one behind a truncation: where the power goes tells which bytes are turned, in which order.
func TestCompactByteByByte(t *testing.T) {
	snap := string(bytes.Repeat([]byte("snap"), 1100))
	old, after := region(3, "old", "x"), region(5, snap)
	for cut := 0; cut < len(old)+len(after); cut += 1 + cut/500 {
		d := made(5000, old, region(4, "", "rec"))
		j := opened(t, d)
		d.Cut(cut)
		if e := j.Compact([]byte(snap)); e != api.ErrDown {
			t.Errorf("the power goes at %d: %d", cut, e)
		}
		want := old[:max(len(old)-cut, 0)]
		if cut > len(old) {
			want = after[:cut-len(old)]
		}
		if !bytes.Equal(d.Bytes(0), want) || !bytes.Equal(d.Bytes(1), region(4, "", "rec")) {
			t.Errorf("the power goes at %d: %d bytes, not %d", cut, d.Len(0), len(want))
		}
	}
}

// P7.1: Compact's errors, in their order; but of ErrDown nothing is turned.
func TestCompactErrors(t *testing.T) {
	old, now := region(math.MaxUint64-2, "old", "x"), region(math.MaxUint64-1, "snap", "rec")
	for _, down := range []bool{false, true} {
		d := made(200, old, now)
		j := opened(t, d)
		if down {
			d.Cut(0)
			d.Append(0, []byte{1})
		}
		before := modelOf(d)
		for _, n := range []int{200, 5000, 200 - journal.Heavy(math.MaxUint64, 0) - 7 + 1} {
			if e := j.Compact(make([]byte, n)); e != api.ErrFull || !bytes.Equal(d.Bytes(0), old) || !bytes.Equal(d.Bytes(1), now) {
				t.Errorf("Compact of %d bytes, down %v: %d", n, down, e)
			}
		}
		check(t, "refused", j, d, before)
		n := 200 - journal.Heavy(math.MaxUint64, 0) - 7
		if e := j.Compact(make([]byte, n)); down && e != api.ErrDown || !down && (e != api.OK || j.Room() != 0 || j.Age() != math.MaxUint64) {
			t.Errorf("Compact of as many bytes as there is room for, down %v: %d", down, e)
		}
		if down {
			check(t, "the power gone", j, d, before)
			continue
		}
		for range 2 {
			full := modelOf(d)
			for _, n := range []int{0, 1, 4096, 5000} {
				if e := j.Compact(make([]byte, n)); e != api.ErrMany || !bytes.Equal(d.Bytes(1), now) {
					t.Errorf("Compact of %d bytes, of the greatest age: %d", n, e)
				}
			}
			check(t, "of the greatest age", j, d, full)
			d.Cut(0)
			d.Append(1, []byte{1})
		}
	}
	// One byte more of the age is one byte less for the snapshot.
	for _, r := range []struct {
		age  uint64
		want api.Errno
	}{{125, api.OK}, {126, api.OK}, {127, api.ErrFull}, {128, api.ErrFull}} {
		d := made(26, region(r.age, ""), []byte("left"))
		if e := opened(t, d).Compact([]byte("abc")); e != r.want || e != api.OK && d.Turned() != 0 {
			t.Errorf("Compact of age %d: %d, %d bytes turned", r.age, e, d.Turned())
		}
	}
	j := opened(t, device.New(16))
	if j.Compact(nil) != api.OK || j.Compact([]byte{1}) != api.ErrFull || j.Age() != 2 {
		t.Error("Compact on a device with room for an empty snapshot alone")
	}
}

// act is an Append or a Compact at random: what the journal has to be behind it, and its error.
func act(j *journal.Journal, m *model, rnd *rand.Rand, capacity int) (model, api.Errno) {
	next := *m
	b := random(rnd, rnd.IntN(12))
	if rnd.IntN(4) == 0 {
		next.snap, next.recs, next.age, next.region = b, nil, m.age+1, 1-m.region
		next.end = len(beginning(next.age, b))
		return next, j.Compact(b)
	}
	next.recs = append(slices.Clip(m.recs), b)
	next.end += len(b) + 7
	if next.end > capacity {
		return *m, j.Append(b)
	}
	return next, j.Append(b)
}

// P7.2: wherever the power goes, all that was answered OK is there behind it, and of the call that was cut all or nothing.
func TestCuts(t *testing.T) {
	const capacity = 130
	for seed := range uint64(30) {
		for cut := range 300 {
			rnd := rand.New(rand.NewPCG(seed, 9))
			d := device.New(capacity)
			j := opened(t, d)
			m := model{age: 1, end: 16}
			d.Cut(cut)
			for range 40 {
				next, e := act(j, &m, rnd, capacity)
				if e == api.ErrDown {
					again(t, d, j, m, next)
					break
				}
				if full := len(next.recs) == len(m.recs) && next.age == m.age; full != (e == api.ErrFull) || e != api.OK && e != api.ErrFull {
					t.Fatalf("seed %d, cut %d: error %d", seed, cut, e)
				}
				m = next
				check(t, "ahead of the cut", j, d, m)
			}
		}
	}
}

// again opens a device behind a loss of power, which may be lost once more in that, anywhere.
func again(t *testing.T, d *device.Device, j *journal.Journal, m, next model) {
	t.Helper()
	if !d.Down() || j.Age() != m.age || j.Count() != len(m.recs) || !bytes.Equal(j.Snapshot(), m.snap) {
		t.Errorf("behind the cut: age %d, %d records", j.Age(), j.Count())
	}
	for second := range 40 {
		d := d.Clone()
		d.Restore()
		d.Cut(second)
		k, e := journal.Open(d)
		done := e == api.OK
		if !done {
			if e != api.ErrDown || k != nil {
				t.Errorf("cut in Open: %v, error %d", k, e)
			}
			d.Restore()
			k = opened(t, d)
		}
		if s := differs(k, d, m); s != "" && differs(k, d, next) != "" {
			t.Errorf("neither as ahead of the cut nor as behind the call: %s", s)
		}
		d.Restore()
		if e := k.Append(nil); e == api.OK {
			check(t, "appended behind it", opened(t, d), d, modelOf(d))
			if got := modelOf(d); len(got.recs) != k.Count() {
				t.Errorf("%d records of %d", len(got.recs), k.Count())
			}
		}
		if done {
			break
		}
	}
}

// P7.2, P3 of the whole: what is answered OK is there, though a journal is used on behind a cut, or something was laid behind its records.
func TestUsedOn(t *testing.T) {
	for cut := range 60 {
		d := made(200, region(6, "snap", "a"), region(5, "old"))
		j := opened(t, d)
		want := []string{"a"}
		d.Cut(cut)
		for _, rec := range []string{"bc", "def", "", "ghijklmnop"} {
			if e := j.Append([]byte(rec)); e == api.OK {
				want = append(want, rec)
			} else if e != api.ErrDown {
				t.Errorf("cut %d: %d", cut, e)
			} else if j.Append([]byte("x")) != api.ErrDown {
				t.Errorf("cut %d: the power is away", cut)
			}
			d.Restore()
		}
		if b := region(6, "snap", want...); !bytes.Equal(d.Bytes(0), b) || j.Count() != len(want) || j.Room() != 200-len(b) {
			t.Errorf("cut %d: %q of %d records", cut, d.Bytes(0), len(want))
		}
	}
	d := device.New(100)
	j := opened(t, d)
	j.Append([]byte("a"))
	d.Append(0, []byte{9})
	if e := j.Append([]byte("b")); e != api.OK || !bytes.Equal(d.Bytes(0), region(1, "", "a", "b")) {
		t.Errorf("something laid behind the records: %d, %q", e, d.Bytes(0))
	}
}

// P7.1: whatever is done to the device beneath a journal, its calls end and don't panic.
func TestBytesBeneath(t *testing.T) {
	rnd := rand.New(rand.NewPCG(3, 3))
	for range 2000 {
		d := made(60, rough(rnd), rough(rnd))
		j := opened(t, d)
		for range 4 {
			d.Load(rnd.IntN(2), rough(rnd))
			j.Snapshot()
			records(j)
			j.Room()
			if e := j.Append(random(rnd, rnd.IntN(20))); e != api.OK && e != api.ErrFull {
				t.Errorf("Append: %d", e)
			}
			if rnd.IntN(2) == 0 {
				if e := j.Compact(random(rnd, rnd.IntN(50))); e != api.OK && e != api.ErrFull {
					t.Errorf("Compact: %d", e)
				}
			}
		}
	}
}

// P7.1: records come only as long as more is asked for, as often as one likes, as they were when they were asked for.
func TestRecordsGoOn(t *testing.T) {
	d := made(200, region(1, "snap", "a", "b", "c"), nil)
	j := opened(t, d)
	all := j.Records()
	for _, most := range []int{1, 2, 3, 4, 1} {
		n := 0
		for i, rec := range all {
			if i != n || string(rec) != string("abc"[i]) {
				t.Errorf("record %d is %d, %q", n, i, rec)
			}
			if n++; n == most {
				break
			}
		}
		if n != min(most, 3) {
			t.Errorf("asked for %d: %d", most, n)
		}
	}
	calls := 0
	all(func(int, []byte) bool { calls++; return false })
	if calls != 1 {
		t.Errorf("asked for one: %d", calls)
	}
	for i := range all {
		if i == 0 {
			j.Append([]byte("d"))
			j.Compact([]byte("new"))
			j.Append([]byte("e"))
			j.Compact([]byte("newer"))
		}
		calls += i
	}
	if calls != 1+0+1+2 {
		t.Errorf("records, with calls while they are gone over: %d", calls)
	}
	n := 0
	for i, rec := range all {
		if n++; string(rec) != string("abc"[i]) {
			t.Errorf("record %d is %q behind the calls", i, rec)
		}
	}
	if n != 3 {
		t.Errorf("records that were asked for ahead of the calls: %d", n)
	}
	if got := records(j); len(got) != 0 {
		t.Errorf("records behind a Compact: %q", got)
	}
}

// P7.1: what stands in a region, frame by frame.
func TestLook(t *testing.T) {
	type row struct {
		at   int
		what string
	}
	long := framed(4, make([]byte, 4096))
	for _, r := range []struct {
		b    []byte
		want []row
	}{
		{nil, nil},
		{region(2, "snap", "one", ""), []row{{0, "head 2"}, {9, "piece 4"}, {20, "ready 0"}, {27, "record 3"}, {37, "record 0"}}},
		{slices.Concat(framed(5, []byte("ab")), framed(255, nil), framed(4, nil), framed(1, nil), framed(3, []byte("x")), framed(2, nil)), []row{{0, "other 2"}, {9, "other 0"}, {16, "record 0"}, {23, "head 0"}, {30, "ready 1"}, {38, "piece 0"}}},
		{append(region(300, ""), 1), []row{{0, "head 3"}, {10, "ready 0"}, {17, "rest 1"}}},
		{[]byte{9}, []row{{0, "rest 1"}}},
		{[]byte("garbage, more of it"), []row{{0, "rest 19"}}},
		{slices.Concat(framed(4, []byte("a")), framed(0, nil), framed(4, nil)), []row{{0, "record 1"}, {8, "rest 14"}}},
		{slices.Concat(long, long[:4000], framed(3, nil)), []row{{0, "record 4096"}, {4103, "rest 4007"}}},
		{slices.Concat(framed(128, make([]byte, 10)), framed(6, make([]byte, 100))), []row{{0, "other 10"}, {17, "other 100"}}},
	} {
		for at := range 2 {
			d := device.New(20000)
			d.Load(at, r.b)
			d.Cut(0)
			seq := journal.Look(d, at)
			for most := range len(r.want) + 2 {
				var got []row
				for at, what := range seq {
					got = append(got, row{at, what})
					if len(got) == most {
						break
					}
				}
				if want := r.want[:min(most, len(r.want))]; most > 0 && !slices.Equal(got, want) || most == 0 && !slices.Equal(got, r.want) {
					t.Errorf("Look: %v, not %v", got, r.want)
				}
			}
			d.Load(at, []byte("other bytes"))
			n := 0
			for range seq {
				n++
			}
			if n != len(r.want) {
				t.Errorf("the region has other bytes behind the call: %d", n)
			}
			for range journal.Look(d, 1-at) {
				t.Error("something in the other region")
			}
			if d.Turned() != 0 || d.Down() {
				t.Error("Look turns something")
			}
		}
	}
	d := made(100, region(1, ""), region(2, ""))
	for _, at := range []int{-1, 2, 3, 256, 1 << 32, 1<<32 + 1, math.MaxInt, math.MinInt} {
		for range journal.Look(d, at) {
			t.Errorf("something in region %d", at)
		}
	}
	d.Cut(0)
	d.Append(0, []byte{1})
	n := 0
	for range journal.Look(d, 0) {
		n++
	}
	if n != 2 {
		t.Errorf("with the power gone: %d", n)
	}
}

// P7.4: what is answered is new memory each time, spare room too.
func TestAnswersAreNew(t *testing.T) {
	big := bytes.Repeat([]byte("x"), 5000)
	d := device.New(20000)
	j := opened(t, d)
	j.Compact(big)
	j.Append([]byte("abc"))
	j.Append([]byte("def"))
	before := d.Bytes(1)
	for range 2 {
		first, second := j.Snapshot(), j.Snapshot()
		overwrite(first)
		if !bytes.Equal(second, big) {
			t.Errorf("a snapshot that is written over: %.20q", second)
		}
		all := j.Records()
		var recs [][]byte
		for range 2 {
			for i, rec := range all {
				recs = append(recs, rec)
				if i == 0 {
					overwrite(append(rec, "more than was there"...))
					overwrite(rec)
				}
			}
		}
		if string(recs[1]) != "def" || string(recs[3]) != "def" || string(recs[2]) != "\xee\xee\xee" {
			t.Errorf("records that are written over: %q", recs)
		}
	}
	check(t, "written over", j, d, modelOf(d))
	if !bytes.Equal(d.Bytes(1), before) || j.Count() != 2 {
		t.Error("written over on the device")
	}
}

// P7.4: what is handed in stays, the memory behind it too, and may be written over behind the call.
func TestArguments(t *testing.T) {
	room := bytes.Repeat([]byte("0123456789"), 1000)
	was := slices.Clone(room)
	d := device.New(20000)
	j := opened(t, d)
	j.Append(room[:5])
	j.Append(room[:4096])
	if !bytes.Equal(room, was) {
		t.Error("Append turns what is handed in")
	}
	overwrite(room)
	if got := records(j); !bytes.Equal(got[0], was[:5]) || !bytes.Equal(got[1], was[:4096]) {
		t.Errorf("Append keeps what is handed in: %q", got[0])
	}
	copy(room, was)
	j.Compact(room[:5000])
	if !bytes.Equal(room, was) {
		t.Error("Compact turns what is handed in")
	}
	overwrite(room)
	if !bytes.Equal(j.Snapshot(), was[:5000]) {
		t.Error("Compact keeps what is handed in")
	}
	check(t, "handed in", opened(t, d), d, model{region: 1, age: 2, snap: was[:5000], end: journal.Heavy(2, 5000)})
}

// P7.1: as many records as the greatest device has room for.
func TestFullDevice(t *testing.T) {
	d := device.New(1 << 20)
	j := opened(t, d)
	n := 0
	for ; j.Room() >= journal.Weight(0); n++ {
		if e := j.Append(nil); e != api.OK {
			t.Fatalf("record %d: %d", n, e)
		}
	}
	if e := j.Append(nil); e != api.ErrFull || n != (1<<20-16)/7 || j.Count() != n {
		t.Errorf("%d records, then %d", n, e)
	}
	k := opened(t, d)
	if k.Count() != n || k.Room() != j.Room() || len(records(k)) != n {
		t.Errorf("%d records of %d", k.Count(), n)
	}
	most := 1<<20 - journal.Heavy(2, 1<<20)
	snap := make([]byte, 1<<20+most)
	if k.Compact(append(snap, 1)) != api.ErrFull || k.Compact(snap) != api.OK || k.Room() != 0 || !bytes.Equal(opened(t, d).Snapshot(), snap) {
		t.Errorf("a snapshot of %d bytes", len(snap))
	}
}
