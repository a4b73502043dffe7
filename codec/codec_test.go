// The tests of layer 5. Above each stands the promise that it holds the program to.
package codec_test

import (
	"bytes"
	"iter"
	"math"
	"math/big"
	"math/rand/v2"
	"slices"
	"strings"
	"testing"

	"saleroom/api"
	"saleroom/codec"
)

// written is what some writes make of the zero Out.
func written(write func(o *codec.Out)) []byte {
	var o codec.Out
	write(&o)
	return o.Done()
}

// uintBytes is a whole number as it is written.
func uintBytes(n uint64) []byte { return written(func(o *codec.Out) { o.Uint(n) }) }

// takeBytes reads bytes, as many as one likes.
func takeBytes(in *codec.In) []byte { return in.Bytes(math.MaxInt) }

// takeNothing reads a thing that takes no bytes.
func takeNothing(*codec.In) int { return 7 }

// pick is n bytes, each as one gives it.
func pick(n int, one func() byte) []byte {
	b := make([]byte, n)
	for i := range b {
		b[i] = one()
	}
	return b
}

// random is n bytes, the same ones each time for the same generator.
func random(rnd *rand.Rand, n int) []byte {
	return pick(n, func() byte { return byte(rnd.Uint32()) })
}

// overwrite writes over bytes, the memory behind their length too.
func overwrite(b []byte) {
	b = b[:cap(b)]
	for i := range b {
		b[i] = 0xEE
	}
}

// numbers are the ends of each count of bytes, the powers of two, their neighbours, and some at random.
func numbers() []uint64 {
	ns := []uint64{0, 5, 300, 1000, math.MaxUint64, math.MaxUint64 - 1}
	for bit := range 64 {
		n := uint64(1) << bit
		ns = append(ns, n-1, n, n+1, -n)
	}
	rnd := rand.New(rand.NewPCG(1, 1))
	for range 500 {
		ns = append(ns, rnd.Uint64()>>rnd.IntN(64))
	}
	return ns
}

// bytesOf is a whole number as bytes as the document tells it: divided by 128, again and again.
func bytesOf(n *big.Int) []byte {
	var b []byte
	rest := new(big.Int).Set(n)
	for {
		digit := new(big.Int)
		rest.QuoRem(rest, big.NewInt(128), digit)
		if rest.Sign() == 0 {
			return append(b, byte(digit.Int64()))
		}
		b = append(b, byte(digit.Int64()+128))
	}
}

// numberOf is the whole number that bytes begin with as the document tells it, and what is left.
func numberOf(b []byte) (uint64, []byte, api.Errno) {
	n, place := new(big.Int), big.NewInt(1)
	for i, x := range b {
		n.Add(n, new(big.Int).Mul(place, big.NewInt(int64(x%128))))
		place.Mul(place, big.NewInt(128))
		if x < 128 {
			if i+1 > 10 || n.BitLen() > 64 || !bytes.Equal(bytesOf(n), b[:i+1]) {
				return 0, nil, api.ErrForm
			}
			return n.Uint64(), b[i+1:], api.OK
		}
	}
	return 0, nil, api.ErrShort
}

// P5.1: whole numbers as bytes, by hand.
func TestUintByHand(t *testing.T) {
	for _, r := range []struct {
		n    uint64
		want string
	}{
		{0, "\x00"}, {1, "\x01"}, {64, "\x40"}, {127, "\x7F"}, {128, "\x80\x01"}, {129, "\x81\x01"}, {255, "\xFF\x01"}, {256, "\x80\x02"}, {300, "\xAC\x02"},
		{16383, "\xFF\x7F"}, {16384, "\x80\x80\x01"}, {1<<21 - 1, "\xFF\xFF\x7F"}, {1 << 21, "\x80\x80\x80\x01"}, {1 << 32, "\x80\x80\x80\x80\x10"},
		{1<<40 + 1, "\x81\x80\x80\x80\x80\x20"}, {1<<63 - 1, "\xFF\xFF\xFF\xFF\xFF\xFF\xFF\xFF\x7F"}, {1 << 63, "\x80\x80\x80\x80\x80\x80\x80\x80\x80\x01"},
		{1<<64 - 1, "\xFF\xFF\xFF\xFF\xFF\xFF\xFF\xFF\xFF\x01"},
	} {
		if got := uintBytes(r.n); string(got) != r.want {
			t.Errorf("%d as bytes: %x, not %x", r.n, got, r.want)
		}
		in := codec.From([]byte(r.want))
		if got := in.Uint(); got != r.n || in.Err() != api.OK || in.Left() != 0 {
			t.Errorf("%x as a number: %d, error %d, left %d", r.want, got, in.Err(), in.Left())
		}
	}
}

// P5.1: numbers with a sign as bytes, by hand.
func TestIntByHand(t *testing.T) {
	for _, r := range []struct {
		n    int64
		want string
	}{
		{0, "\x00"}, {-1, "\x01"}, {1, "\x02"}, {-2, "\x03"}, {2, "\x04"}, {63, "\x7E"}, {-64, "\x7F"}, {64, "\x80\x01"}, {-65, "\x81\x01"}, {150, "\xAC\x02"},
		{1 << 40, "\x80\x80\x80\x80\x80\x40"}, {-1 << 40, "\xFF\xFF\xFF\xFF\xFF\x3F"}, {1<<31 - 1, "\xFE\xFF\xFF\xFF\x0F"}, {-1 << 31, "\xFF\xFF\xFF\xFF\x0F"},
		{math.MaxInt64, "\xFE\xFF\xFF\xFF\xFF\xFF\xFF\xFF\xFF\x01"}, {math.MinInt64, "\xFF\xFF\xFF\xFF\xFF\xFF\xFF\xFF\xFF\x01"}, {math.MinInt64 + 1, "\xFD\xFF\xFF\xFF\xFF\xFF\xFF\xFF\xFF\x01"},
	} {
		if got := written(func(o *codec.Out) { o.Int(r.n) }); string(got) != r.want {
			t.Errorf("%d as bytes: %x, not %x", r.n, got, r.want)
		}
		in := codec.From([]byte(r.want))
		if got := in.Int(); got != r.n || in.Err() != api.OK || in.Left() != 0 {
			t.Errorf("%x as a number: %d, error %d, left %d", r.want, got, in.Err(), in.Left())
		}
	}
}

// P5.1, P5.2: numbers are written as the document tells, and read as they were written.
func TestNumbersAsDefined(t *testing.T) {
	for _, n := range numbers() {
		want := bytesOf(new(big.Int).SetUint64(n))
		if got := uintBytes(n); !bytes.Equal(got, want) {
			t.Errorf("%d as bytes: %x, not %x", n, got, want)
		}
		in := codec.From(append(slices.Clone(want), 0x80))
		if got := in.Uint(); got != n || in.Err() != api.OK || in.Left() != 1 {
			t.Errorf("%x as a number: %d, error %d, left %d", want, got, in.Err(), in.Left())
		}
		signed := int64(n)
		twice := new(big.Int).Lsh(big.NewInt(signed), 1)
		if signed < 0 {
			twice.Neg(twice).Sub(twice, big.NewInt(1))
		}
		want = bytesOf(twice)
		if got := written(func(o *codec.Out) { o.Int(signed) }); !bytes.Equal(got, want) {
			t.Errorf("%d as bytes: %x, not %x", signed, got, want)
		}
		in = codec.From(append(slices.Clone(want), 0x80))
		if got := in.Int(); got != signed || in.Err() != api.OK || in.Left() != 1 {
			t.Errorf("%x as a number with a sign: %d, error %d, left %d", want, got, in.Err(), in.Left())
		}
	}
}

// P5.1: bytes that are no whole number, by hand: that they end within it is told first.
func TestNoNumberByHand(t *testing.T) {
	nine := strings.Repeat("\xFF", 9)
	for _, r := range []struct {
		b    string
		want api.Errno
	}{
		{"", api.ErrShort}, {"\x80", api.ErrShort}, {"\xFF", api.ErrShort}, {"\x80\x80", api.ErrShort}, {nine, api.ErrShort},
		{nine + "\x80", api.ErrShort}, {nine + "\x81", api.ErrShort}, {nine + "\xFF", api.ErrShort}, {nine + nine, api.ErrShort}, {strings.Repeat("\x80", 40), api.ErrShort},
		{"\x80\x00", api.ErrForm}, {"\xFF\x00", api.ErrForm}, {"\x80\x80\x00", api.ErrForm}, {"\xAC\x82\x00", api.ErrForm}, {"\x80\x00\x01", api.ErrForm},
		{nine + "\x00", api.ErrForm}, {nine + "\x02", api.ErrForm}, {nine + "\x03", api.ErrForm}, {nine + "\x40", api.ErrForm}, {nine + "\x7F", api.ErrForm}, {strings.Repeat("\x80", 9) + "\x02", api.ErrForm},
		{nine + "\x80\x00", api.ErrForm}, {nine + "\x80\x01", api.ErrForm}, {nine + "\x81\x00", api.ErrForm}, {nine + nine + "\x01", api.ErrForm}, {strings.Repeat("\x80", 40) + "\x00", api.ErrForm},
	} {
		for name, read := range map[string]func(in *codec.In) bool{
			"Uint":  func(in *codec.In) bool { return in.Uint() == 0 },
			"Int":   func(in *codec.In) bool { return in.Int() == 0 },
			"Bytes": func(in *codec.In) bool { return len(in.Bytes(math.MaxInt)) == 0 },
			"Take":  func(in *codec.In) bool { return len(codec.Take(in, math.MaxInt, (*codec.In).Uint)) == 0 },
		} {
			in := codec.From([]byte(r.b))
			if !read(in) || in.Err() != r.want || in.Left() != 0 {
				t.Errorf("%s of %x: error %d, not %d, left %d", name, r.b, in.Err(), r.want, in.Left())
			}
		}
		if all, e := codec.All([]byte(r.b), math.MaxInt, (*codec.In).Uint); all != nil || e != r.want {
			t.Errorf("All of %x: %v, error %d, not %d", r.b, all, e, r.want)
		}
	}
}

// checkNumber holds what is read of bytes against the document's definition.
func checkNumber(t *testing.T, b []byte) {
	t.Helper()
	n, rest, e := numberOf(b)
	in := codec.From(b)
	if got := in.Uint(); got != n || in.Err() != e || in.Left() != len(rest) {
		t.Errorf("Uint of %x: %d, error %d, left %d, not %d, %d, %d", b, got, in.Err(), in.Left(), n, e, len(rest))
	}
	signed := int64(n / 2)
	if n%2 == 1 {
		signed = -signed - 1
	}
	in = codec.From(b)
	if got := in.Int(); got != signed || in.Err() != e || in.Left() != len(rest) {
		t.Errorf("Int of %x: %d, error %d, left %d, not %d, %d, %d", b, got, in.Err(), in.Left(), signed, e, len(rest))
	}
	if e == api.OK && !bytes.Equal(uintBytes(n), b[:len(b)-len(rest)]) {
		t.Errorf("what is read of %x is written as %x", b, uintBytes(n))
	}
}

// P5.1, P5.2: whatever the bytes, they are read as defined, and what is read is written as the same bytes.
func TestReadNumbersAsDefined(t *testing.T) {
	for first := range 256 {
		checkNumber(t, []byte{byte(first)})
		for second := range 256 {
			checkNumber(t, []byte{byte(first), byte(second)})
		}
	}
	rnd := rand.New(rand.NewPCG(2, 2))
	edges := []byte{0, 1, 2, 0x7F, 0x80, 0x80, 0x81, 0xFF, 0xFF}
	for n := range 24 {
		for range 300 {
			checkNumber(t, pick(n, func() byte { return edges[rnd.IntN(len(edges))] }))
			checkNumber(t, append(pick(n, func() byte { return byte(rnd.Uint32()) | 0x80 }), byte(rnd.IntN(4))))
			checkNumber(t, random(rnd, n))
		}
	}
}

// P5.1: bytes, and how many there may be, by hand.
func TestBytesByHand(t *testing.T) {
	long := strings.Repeat("long", 100)
	for _, b := range []string{"", "a", "xyz", "\x00", "\xFF\xFF", long[:127], long[:128], long[:300]} {
		want := string(bytesOf(big.NewInt(int64(len(b))))) + b
		got := written(func(o *codec.Out) { o.Bytes([]byte(b)) })
		if string(got) != want {
			t.Errorf("%q as bytes: %x, not %x", b, got, want)
		}
	}
	if got := written(func(o *codec.Out) { o.Bytes(nil) }); string(got) != "\x00" {
		t.Errorf("nil as bytes: %x", got)
	}
	huge := string(uintBytes(math.MaxUint64))
	for _, r := range []struct {
		b    string
		most int
		want string
		left int
		err  api.Errno
	}{
		{"\x00", 0, "", 0, api.OK}, {"\x00", -1, "", 0, api.OK}, {"\x00", math.MinInt, "", 0, api.OK}, {"\x00ab", 5, "", 2, api.OK},
		{"\x03xyz", 3, "xyz", 0, api.OK}, {"\x03xyz!", 3, "xyz", 1, api.OK}, {"\x03xyz!", 4, "xyz", 1, api.OK}, {"\x03xyz", math.MaxInt, "xyz", 0, api.OK},
		{"\x03xyz", 2, "", 0, api.ErrLong}, {"\x03xyz", 0, "", 0, api.ErrLong}, {"\x03xyz", -1, "", 0, api.ErrLong}, {"\x01x", -1, "", 0, api.ErrLong}, {"\x03xyz", math.MinInt, "", 0, api.ErrLong},
		{"\x03xy", 3, "", 0, api.ErrShort}, {"\x03", 3, "", 0, api.ErrShort}, {"\x03xy", math.MaxInt, "", 0, api.ErrShort}, {"\x01", 1, "", 0, api.ErrShort},
		{"\x03xy", 2, "", 0, api.ErrLong}, {"\x03", 2, "", 0, api.ErrLong}, {"\x01", 0, "", 0, api.ErrLong}, {"\x01", -5, "", 0, api.ErrLong},
		{huge + "abc", math.MaxInt, "", 0, api.ErrLong}, {huge, 3, "", 0, api.ErrLong}, {string(uintBytes(1 << 63)), math.MaxInt, "", 0, api.ErrLong}, {string(uintBytes(1<<64 - 3)), -3, "", 0, api.ErrLong},
		{string(uintBytes(1<<63-1)) + "abc", math.MaxInt, "", 0, api.ErrShort}, {string(uintBytes(1<<32+3)) + "abc", math.MaxInt, "", 0, api.ErrShort}, {string(uintBytes(1<<32+3)) + "abc", 3, "", 0, api.ErrLong},
	} {
		in := codec.From([]byte(r.b))
		if got := in.Bytes(r.most); string(got) != r.want || in.Left() != r.left || in.Err() != r.err {
			t.Errorf("Bytes(%d) of %x: %q, left %d, error %d, not %q, %d, %d", r.most, r.b, got, in.Left(), in.Err(), r.want, r.left, r.err)
		}
	}
}

// P5.1: lists, and how many there may be in one, by hand.
func TestTakeByHand(t *testing.T) {
	huge := string(uintBytes(math.MaxUint64))
	for _, r := range []struct {
		b     string
		most  int
		want  []uint64
		left  int
		err   api.Errno
		calls int
	}{
		{"\x00", 0, nil, 0, api.OK, 0}, {"\x00", -1, nil, 0, api.OK, 0}, {"\x00\x80", math.MinInt, nil, 1, api.OK, 0},
		{"\x02\x01\x02", 2, []uint64{1, 2}, 0, api.OK, 2}, {"\x02\x01\x02\x03", 2, []uint64{1, 2}, 1, api.OK, 2}, {"\x02\x01\xAC\x02\x00\x00", math.MaxInt, []uint64{1, 300}, 2, api.OK, 2},
		{"\x02\x01\x02", 1, nil, 0, api.ErrMany, 0}, {"\x02\x01\x02", 0, nil, 0, api.ErrMany, 0}, {"\x01\x01", -1, nil, 0, api.ErrMany, 0}, {"\x01\x01", math.MinInt, nil, 0, api.ErrMany, 0},
		{"\x02\x01", 2, nil, 0, api.ErrShort, 2}, {"\x02", 2, nil, 0, api.ErrShort, 1}, {"\x05\x01\x02\x80", 9, nil, 0, api.ErrShort, 3},
		{"\x02\x01", 1, nil, 0, api.ErrMany, 0}, {"\x02", 1, nil, 0, api.ErrMany, 0}, {"\x01", 0, nil, 0, api.ErrMany, 0},
		{"\x03\x01\x80\x00\x02", 3, nil, 0, api.ErrForm, 2}, {"\x01\x80\x00", 1, nil, 0, api.ErrForm, 1}, {"\x02\x80\x00\x80", 2, nil, 0, api.ErrForm, 1},
		{huge + "\x01", math.MaxInt, nil, 0, api.ErrMany, 0}, {huge, -1, nil, 0, api.ErrMany, 0}, {string(uintBytes(1 << 63)), math.MaxInt, nil, 0, api.ErrMany, 0},
		{string(uintBytes(1<<63-1)) + "\x01\x02", math.MaxInt, nil, 0, api.ErrShort, 3}, {string(uintBytes(1<<32+1)) + "\x01", 1, nil, 0, api.ErrMany, 0}, {string(uintBytes(1<<32+1)) + "\x01", 1 << 40, nil, 0, api.ErrShort, 2},
	} {
		in, calls := codec.From([]byte(r.b)), 0
		got := codec.Take(in, r.most, func(of *codec.In) uint64 {
			if calls++; of != in || calls > 9 {
				t.Fatalf("Take(%d) of %x: call %d", r.most, r.b, calls)
			}
			return of.Uint()
		})
		if !slices.Equal(got, r.want) || in.Left() != r.left || in.Err() != r.err || calls != r.calls {
			t.Errorf("Take(%d) of %x: %d, left %d, error %d, calls %d, not %d, %d, %d, %d", r.most, r.b, got, in.Left(), in.Err(), calls, r.want, r.left, r.err, r.calls)
		}
	}
}

// P5.1: of things that take no bytes there may be as many as are told; a list of lists has what each has.
func TestTakeOfOtherThings(t *testing.T) {
	in := codec.From([]byte("\x03\x09"))
	if got := codec.Take(in, 3, takeNothing); !slices.Equal(got, []int{7, 7, 7}) || in.Left() != 1 || in.Err() != api.OK {
		t.Errorf("things of no bytes: %v, left %d, error %d", got, in.Left(), in.Err())
	}
	if got, e := codec.All([]byte("\x80\x02"), 256, func(*codec.In) struct{} { return struct{}{} }); len(got) != 256 || e != api.OK {
		t.Errorf("things of no size: %d, error %d", len(got), e)
	}
	lists := func(in *codec.In) []int64 { return codec.Take(in, 2, (*codec.In).Int) }
	got, e := codec.All([]byte("\x03\x02\x01\x02\x00\x01\x04"), 3, lists)
	if e != api.OK || len(got) != 3 || !slices.Equal(got[0], []int64{-1, 1}) || len(got[1]) != 0 || !slices.Equal(got[2], []int64{2}) {
		t.Errorf("a list of lists: %v, error %d", got, e)
	}
	for b, want := range map[string]api.Errno{
		"\x03\x02\x01\x02\x03\x01\x02\x03\x00": api.ErrMany, "\x02\x01\x01\x02\x01": api.ErrShort, "\x02\x01\x80\x00\x01": api.ErrForm, "\x04\x00\x00\x00\x00": api.ErrMany, "\x02\x00\x00\x00": api.ErrForm,
	} {
		if got, e := codec.All([]byte(b), 3, lists); got != nil || e != want {
			t.Errorf("All of %x: %v, error %d, not %d", b, got, e, want)
		}
	}
}

// P5.1: a list of which one went wrong in whatever read is none, and one is called no more.
func TestTakeStops(t *testing.T) {
	for fails := range 5 {
		in, calls := codec.From([]byte("\x05\x01a\x01b\x01c\x01d\x01e!")), 0
		got := codec.Take(in, 5, func(in *codec.In) string {
			calls++
			if calls > fails {
				return string(in.Bytes(0)) + "ahead"
			}
			return string(in.Bytes(1))
		})
		if got != nil || calls != fails+1 || in.Err() != api.ErrLong || in.Left() != 0 {
			t.Errorf("place %d went wrong: %v, calls %d, error %d, left %d", fails, got, calls, in.Err(), in.Left())
		}
		if more := codec.Take(in, 5, func(*codec.In) int { calls++; return 1 }); more != nil || calls != fails+1 {
			t.Errorf("behind it: %v, calls %d", more, calls)
		}
	}
}

// P5.1: what goes wrong first stays so, and behind it every read is 0 or none.
func TestFirstErrorStays(t *testing.T) {
	good := "\x01\x01\x01\x01\x01"
	for _, r := range []struct {
		b     string
		wrong func(in *codec.In)
		want  api.Errno
	}{
		{"", func(in *codec.In) { in.Uint() }, api.ErrShort},
		{"\x05" + good[:4], func(in *codec.In) { in.Bytes(9) }, api.ErrShort},
		{"\x80\x00" + good, func(in *codec.In) { in.Uint() }, api.ErrForm},
		{"\x80\x00" + good, func(in *codec.In) { in.Int() }, api.ErrForm},
		{"\x81\x00" + good, func(in *codec.In) { in.Bytes(1) }, api.ErrForm},
		{"\x02\x01" + good, func(in *codec.In) { in.Bytes(1) }, api.ErrLong},
		{"\x02\x01" + good, func(in *codec.In) { codec.Take(in, 1, (*codec.In).Uint) }, api.ErrMany},
		{"\x81\x00" + good, func(in *codec.In) { codec.Take(in, 1, (*codec.In).Uint) }, api.ErrForm},
		{"\x01\x80\x00" + good, func(in *codec.In) { codec.Take(in, 1, (*codec.In).Uint) }, api.ErrForm},
		{"\x02\x01a" + good, func(in *codec.In) {
			codec.Take(in, 2, func(in *codec.In) []byte { return in.Bytes(len(in.Bytes(1)) - 1) })
		}, api.ErrLong},
	} {
		in := codec.From([]byte(r.b))
		if in.Err() != api.OK || in.Left() != len(r.b) {
			t.Errorf("%x at the beginning: error %d, left %d", r.b, in.Err(), in.Left())
		}
		r.wrong(in)
		for round := range 2 {
			if in.Err() != r.want || in.Left() != 0 {
				t.Errorf("%x: error %d, not %d, left %d", r.b, in.Err(), r.want, in.Left())
			}
			calls := 0
			list := codec.Take(in, 9, func(*codec.In) int { calls++; return 1 })
			if in.Uint() != 0 || in.Int() != 0 || in.Bytes(9) != nil || in.Bytes(-1) != nil || list != nil || calls != 0 || in.Err() != r.want || in.Left() != 0 {
				t.Errorf("%x: read number %d behind the error %d", r.b, round, r.want)
			}
		}
	}
}

// P5.1: All is the list that all bytes are, and nothing else.
func TestAllByHand(t *testing.T) {
	for _, r := range []struct {
		b    string
		most int
		want []int64
		err  api.Errno
	}{
		{"\x00", 0, nil, api.OK}, {"\x00", -3, nil, api.OK}, {"\x02\x01\x02", 2, []int64{-1, 1}, api.OK}, {"\x03\xAC\x02\x00\x01", 9, []int64{150, 0, -1}, api.OK},
		{"\x00\x00", 0, nil, api.ErrForm}, {"\x02\x01\x02\x03", 2, nil, api.ErrForm}, {"\x01\x01\x80", 2, nil, api.ErrForm}, {"\x00" + strings.Repeat("a", 1000), 2, nil, api.ErrForm},
		{"", 0, nil, api.ErrShort}, {"\x02\x01", 2, nil, api.ErrShort}, {"\x80", 2, nil, api.ErrShort}, {"\x03\x01\x02", 2, nil, api.ErrMany}, {"\x03\x01\x02\x03\x04\x05", 2, nil, api.ErrMany},
		{"\x01", -1, nil, api.ErrMany}, {"\x02\x80\x00\x01", 2, nil, api.ErrForm}, {"\x02\x01\x80", 2, nil, api.ErrShort}, {"\x81\x00\x01", 0, nil, api.ErrForm},
	} {
		got, e := codec.All([]byte(r.b), r.most, (*codec.In).Int)
		if !slices.Equal(got, r.want) || e != r.err || e != api.OK && got != nil {
			t.Errorf("All(%x, %d): %v, error %d, not %v, %d", r.b, r.most, got, e, r.want, r.err)
		}
	}
	if got, e := codec.All(nil, 3, (*codec.In).Int); got != nil || e != api.ErrShort {
		t.Errorf("All of nil: %v, error %d", got, e)
	}
}

// P5.1: a list is how many come and each as one writes it, behind what was written.
func TestPutByHand(t *testing.T) {
	put := func(ns ...int64) []byte {
		return written(func(o *codec.Out) { codec.Put(o, slices.Values(ns), (*codec.Out).Int) })
	}
	for want, got := range map[string][]byte{
		"\x00": put(), "\x01\x00": put(0), "\x02\x02\x04": put(1, 2), "\x03\x01\xAC\x02\x00": put(-1, 150, 0),
		"\x02\x01\x02":   written(func(o *codec.Out) { codec.Put(o, slices.Values([]uint64{1, 2}), (*codec.Out).Uint) }),
		"\x02\x02ab\x00": written(func(o *codec.Out) { codec.Put(o, slices.Values([][]byte{[]byte("ab"), nil}), (*codec.Out).Bytes) }),
		"\x04":           written(func(o *codec.Out) { codec.Put(o, slices.Values(make([]int, 4)), func(*codec.Out, int) {}) }),
		"\x02\x05\x06\x05\x06": written(func(o *codec.Out) {
			codec.Put(o, slices.Values(make([]int, 2)), func(o *codec.Out, _ int) { o.Uint(5); o.Uint(6) })
		}),
		"\x09\x02\x02\x04\x01x\x01": written(func(o *codec.Out) {
			o.Uint(9)
			codec.Put(o, slices.Values([]int64{1, 2}), (*codec.Out).Int)
			o.Bytes([]byte("x"))
			o.Int(-1)
		}),
		"\x02\x02\x02\x04\x00\x07": written(func(o *codec.Out) {
			codec.Put(o, slices.Values([][]int64{{1, 2}, {}}), func(o *codec.Out, l []int64) { codec.Put(o, slices.Values(l), (*codec.Out).Int) })
			o.Uint(7)
		}),
	} {
		if string(got) != want {
			t.Errorf("a list as bytes: %x, not %x", got, want)
		}
	}
	for _, n := range []int{127, 128, 300, 16384} {
		want := append(bytesOf(big.NewInt(int64(n))), make([]byte, n)...)
		if got := put(make([]int64, n)...); !bytes.Equal(got, want) {
			t.Errorf("a list of %d: %x", n, got)
		}
	}
}

// P5.1: each that comes is asked for once and written as it comes, before it may be turned.
func TestPutGoesOverOnce(t *testing.T) {
	starts, calls := 0, 0
	var all iter.Seq[[]byte] = func(yield func([]byte) bool) {
		starts++
		room := make([]byte, 1)
		for n := range byte(3) {
			room[0] = 'a' + n
			if !yield(room) {
				t.Error("the list is left ahead of its end")
				return
			}
			if calls != int(n)+1 {
				t.Errorf("behind %d: %d calls", n+1, calls)
			}
		}
	}
	got := written(func(o *codec.Out) {
		codec.Put(o, all, func(o *codec.Out, b []byte) { calls++; o.Bytes(b) })
	})
	if string(got) != "\x03\x01a\x01b\x01c" || starts != 1 || calls != 3 {
		t.Errorf("%x, gone over %d times, %d calls", got, starts, calls)
	}
}

// P5.1: the zero Out has nothing; Done is all that was written up to there, whenever it is asked.
func TestDone(t *testing.T) {
	var o codec.Out
	want := ""
	for _, r := range []struct {
		write func()
		b     string
	}{
		{func() {}, ""}, {func() { o.Uint(300) }, "\xAC\x02"}, {func() { o.Int(-1) }, "\x01"}, {func() { o.Bytes([]byte("ab")) }, "\x02ab"}, {func() { o.Done() }, ""},
		{func() { codec.Put(&o, slices.Values([]uint64{1, 2}), (*codec.Out).Uint) }, "\x02\x01\x02"}, {func() { o.Bytes(nil) }, "\x00"}, {func() { o.Uint(0) }, "\x00"},
	} {
		r.write()
		want += r.b
		if string(o.Done()) != want || string(o.Done()) != want {
			t.Errorf("done: %x, not %x", o.Done(), want)
		}
	}
}

// thing is a write, and the read that must give the same.
type thing struct {
	write func(o *codec.Out)
	read  func(in *codec.In) bool
}

func randomThing(rnd *rand.Rand, deep int) thing {
	switch rnd.IntN(4) {
	case 0:
		n := rnd.Uint64() >> rnd.IntN(64)
		return thing{func(o *codec.Out) { o.Uint(n) }, func(in *codec.In) bool { return in.Uint() == n }}
	case 1:
		n := int64(rnd.Uint64()) >> rnd.IntN(64)
		return thing{func(o *codec.Out) { o.Int(n) }, func(in *codec.In) bool { return in.Int() == n }}
	case 2:
		b := random(rnd, rnd.IntN(rnd.IntN(300)+1))
		return thing{func(o *codec.Out) { o.Bytes(b) }, func(in *codec.In) bool { return bytes.Equal(in.Bytes(len(b)), b) }}
	}
	var list []thing
	for range rnd.IntN(5) * min(deep, 1) {
		list = append(list, randomThing(rnd, deep-1))
	}
	return thing{
		func(o *codec.Out) { codec.Put(o, slices.Values(list), func(o *codec.Out, x thing) { x.write(o) }) },
		func(in *codec.In) bool {
			i := -1
			same := codec.Take(in, len(list), func(in *codec.In) bool { i++; return list[i].read(in) })
			return len(same) == len(list) && !slices.Contains(same, false)
		},
	}
}

// P5.2: what is written is read as it, whatever stands ahead and behind; and a beginning of it is ErrShort at last.
func TestWrittenIsRead(t *testing.T) {
	for seed := range uint64(400) {
		rnd := rand.New(rand.NewPCG(seed, 3))
		var o codec.Out
		var all []thing
		var ends []int
		for range rnd.IntN(8) {
			x := randomThing(rnd, 3)
			x.write(&o)
			all, ends = append(all, x), append(ends, len(o.Done()))
		}
		b := o.Done()
		in := codec.From(b)
		for i, x := range all {
			if !x.read(in) || in.Err() != api.OK || in.Left() != len(b)-ends[i] {
				t.Fatalf("seed %d, thing %d: error %d, left %d", seed, i, in.Err(), in.Left())
			}
		}
		if len(b) == 0 {
			continue
		}
		in = codec.From(b[:rnd.IntN(len(b))])
		for _, x := range all {
			x.read(in)
		}
		if in.Err() != api.ErrShort || in.Left() != 0 {
			t.Fatalf("seed %d, a beginning: error %d, left %d", seed, in.Err(), in.Left())
		}
	}
}

// P5.2: whatever bytes All reads, what is read is written as the same bytes; and no other bytes are read as the same list.
func TestReadIsWritten(t *testing.T) {
	rnd := rand.New(rand.NewPCG(4, 4))
	edges := []byte{0, 1, 1, 2, 2, 3, 0x7F, 0x80, 0x81, 0xFF}
	read := 0
	for n := range 9 {
		for range 4000 {
			b := pick(n, func() byte { return edges[rnd.IntN(len(edges))] })
			if ns, e := codec.All(b, 4, (*codec.In).Uint); e == api.OK {
				read++
				if got := written(func(o *codec.Out) { codec.Put(o, slices.Values(ns), (*codec.Out).Uint) }); !bytes.Equal(got, b) {
					t.Errorf("%x is read as %d and written as %x", b, ns, got)
				}
			}
			if ns, e := codec.All(b, 4, (*codec.In).Int); e == api.OK {
				if got := written(func(o *codec.Out) { codec.Put(o, slices.Values(ns), (*codec.Out).Int) }); !bytes.Equal(got, b) {
					t.Errorf("%x is read as %d and written as %x", b, ns, got)
				}
			}
			if bs, e := codec.All(b, 4, takeBytes); e == api.OK {
				if got := written(func(o *codec.Out) { codec.Put(o, slices.Values(bs), (*codec.Out).Bytes) }); !bytes.Equal(got, b) {
					t.Errorf("%x is read as %q and written as %x", b, bs, got)
				}
			}
		}
	}
	if read < 100 {
		t.Errorf("only %d lists were read", read)
	}
}

// P5.3: what is answered is new memory each time, spare room too, and goes on with nothing that is called behind it.
func TestAnswersAreNew(t *testing.T) {
	var o codec.Out
	o.Bytes([]byte("abc"))
	first := o.Done()
	overwrite(first)
	overwrite(append(first, 1))
	second := o.Done()
	o.Bytes([]byte("de"))
	codec.Put(&o, slices.Values([][]byte{[]byte("f"), []byte("gh")}), (*codec.Out).Bytes)
	overwrite(append(second, 1)[:cap(second)])
	b := o.Done()
	if string(b) != "\x03abc\x02de\x02\x01f\x02gh" {
		t.Fatalf("behind answers that are written over: %q", b)
	}
	third := o.Done()
	o.Uint(1)
	if string(third) != string(b) {
		t.Errorf("two answers share memory: %q", third)
	}
	in := codec.From(b)
	other := *in
	x := in.Bytes(9)
	overwrite(append(x, 1))
	overwrite(x)
	y := other.Bytes(9)
	if string(y) != "abc" {
		t.Errorf("an answer is read once more: %q", y)
	}
	z := in.Bytes(9)
	list := codec.Take(in, 2, takeBytes)
	overwrite(list[0])
	list[0] = append(list[0], "more than was there"...)
	if string(y) != "abc" || string(z) != "de" || string(list[1]) != "gh" || in.Err() != api.OK {
		t.Errorf("answers share memory: %q %q %q", y, z, list[1])
	}
}

// P5.3: what is handed in stays, the memory behind it too, and may be written over behind the call.
func TestArguments(t *testing.T) {
	room := []byte("\x02\x02ab\x01c-behind it")
	was := string(room)
	b := room[:6]
	in := codec.From(b)
	early := codec.From(b)
	all, e := codec.All(b, 2, takeBytes)
	if len(all) != 2 || e != api.OK {
		t.Fatalf("%q, error %d", all, e)
	}
	all[1] = append(all[1], "more"...)
	got := codec.Take(in, 2, takeBytes)
	got[1] = append(got[1], "more"...)
	var o codec.Out
	o.Bytes(room[2:4])
	o.Bytes(room[:0])
	o.Uint(1)
	if string(room) != was {
		t.Errorf("what is handed in is turned to %q", room)
	}
	overwrite(room)
	if string(all[0]) != "ab" || string(got[0]) != "ab" || string(o.Done()) != "\x02ab\x00\x01" {
		t.Errorf("what is handed in is kept: %q %q %q", all, got, o.Done())
	}
	if late := codec.Take(early, 2, takeBytes); len(late) != 2 || string(late[0]) != "ab" || string(late[1]) != "c" || early.Left() != 0 {
		t.Errorf("what is handed in is read behind the call: %q, error %d", late, early.Err())
	}
	items := []uint64{1, 2, 3, 4}
	codec.Put(&o, slices.Values(items[:2]), (*codec.Out).Uint)
	if !slices.Equal(items, []uint64{1, 2, 3, 4}) {
		t.Errorf("the list is turned to %d", items)
	}
}

// P5.1, P2 of the whole: lists as long as they come are written and read in one go.
func TestLongLists(t *testing.T) {
	const n = 1 << 20
	count := func(yield func(uint64) bool) {
		for i := range uint64(n) {
			if !yield(i) {
				return
			}
		}
	}
	b := written(func(o *codec.Out) { codec.Put(o, count, (*codec.Out).Uint) })
	got, e := codec.All(b, n, (*codec.In).Uint)
	if e != api.OK || len(got) != n {
		t.Fatalf("%d of %d, error %d", len(got), n, e)
	}
	for i, x := range got {
		if x != uint64(i) {
			t.Fatalf("at %d stands %d", i, x)
		}
	}
	if got, e := codec.All(b, n-1, (*codec.In).Uint); got != nil || e != api.ErrMany {
		t.Errorf("one more than may be: %d, error %d", len(got), e)
	}
	if got, e := codec.All(b[:len(b)-1], n, (*codec.In).Uint); got != nil || e != api.ErrShort {
		t.Errorf("one byte less: %d, error %d", len(got), e)
	}
}
