// The tests of layer 6. Above each stands the promise that it holds the program to.
package frame_test

import (
	"bytes"
	"hash/crc32"
	"iter"
	"math"
	"math/rand/v2"
	"slices"
	"testing"

	"saleroom/api"
	"saleroom/frame"
)

// sealed is bytes and behind them their sum, as the document tells it.
func sealed(b []byte) []byte {
	s := crc32.Checksum(b, crc32.MakeTable(crc32.Castagnoli))
	return append(slices.Clone(b), byte(s), byte(s>>8), byte(s>>16), byte(s>>24))
}

// framed is a frame as bytes, as the document tells it, whatever the kind and the length told.
func framed(length int, kind byte, body []byte) []byte {
	return sealed(append([]byte{byte(length % 256), byte(length / 256), kind}, body...))
}

func random(rnd *rand.Rand, n int) []byte {
	b := make([]byte, n)
	for i := range b {
		b[i] = byte(rnd.Uint32())
	}
	return b
}

// overwrite writes over bytes, the memory behind their length too.
func overwrite(b []byte) {
	b = b[:cap(b)]
	for i := range b {
		b[i] = 0xEE
	}
}

func same(a, b frame.Frame) bool { return a.Kind == b.Kind && bytes.Equal(a.Body, b.Body) }

// write is the bytes of a frame that may be.
func write(t *testing.T, kind int, body []byte) []byte {
	t.Helper()
	b, e := frame.Write(frame.Frame{Kind: kind, Body: body})
	if e != api.OK {
		t.Fatalf("Write of kind %d, %d bytes: error %d", kind, len(body), e)
	}
	return b
}

// readOf is what Read must answer, as the document tells it.
func readOf(b []byte) (frame.Frame, int, api.Errno) {
	if len(b) < 2 {
		return frame.Frame{}, 0, api.ErrShort
	}
	n := int(b[0]) + 256*int(b[1])
	switch {
	case n > 4096:
		return frame.Frame{}, 0, api.ErrLong
	case len(b) < n+7:
		return frame.Frame{}, 0, api.ErrShort
	case !bytes.Equal(sealed(b[:n+3]), b[:n+7]):
		return frame.Frame{}, 0, api.ErrSum
	case b[2] == 0:
		return frame.Frame{}, 0, api.ErrForm
	}
	return frame.Frame{Kind: int(b[2]), Body: b[3 : n+3]}, n + 7, api.OK
}

// checkRead holds what is read of bytes against the document.
func checkRead(t *testing.T, what string, b []byte) {
	t.Helper()
	want, size, wrong := readOf(b)
	got, n, e := frame.Read(b)
	if !same(got, want) || n != size || e != wrong || e != api.OK && got.Body != nil {
		t.Errorf("%s: Read of %d bytes %.20x: kind %d, %d bytes, size %d, error %d, not %d, %d, %d, %d", what, len(b), b, got.Kind, len(got.Body), n, e, want.Kind, len(want.Body), size, wrong)
	}
}

// P6.1: how many bytes a frame has.
func TestWeight(t *testing.T) {
	for n, want := range map[int]int{0: 7, 1: 8, 2: 9, 100: 107, 255: 262, 256: 263, 4095: 4102, 4096: 4103, 4097: 4104, 1 << 20: 1<<20 + 7, 1 << 32: 1<<32 + 7, -1: 7, -7: 7, -100: 7, math.MinInt: 7, math.MinInt + 1: 7} {
		if got := frame.Weight(n); got != want {
			t.Errorf("Weight(%d): %d, not %d", n, got, want)
		}
	}
}

// P6.1: frames as bytes, by hand.
func TestWriteByHand(t *testing.T) {
	for _, r := range []struct {
		kind int
		body string
		want string
	}{
		{7, "ab", "\x02\x00\x07ab"}, {1, "", "\x00\x00\x01"}, {255, "\x00", "\x01\x00\xFF\x00"}, {1, "\x01\x00", "\x02\x00\x01\x01\x00"}, {128, "123456789", "\x09\x00\x80123456789"},
	} {
		got := write(t, r.kind, []byte(r.body))
		if want := sealed([]byte(r.want)); !bytes.Equal(got, want) {
			t.Errorf("kind %d of %q: %x, not %x", r.kind, r.body, got, want)
		}
	}
	if got := write(t, 7, nil); !bytes.Equal(got, framed(0, 7, nil)) {
		t.Errorf("kind 7 of nil: %x", got)
	}
	for _, n := range []int{255, 256, 257, 4095, 4096} {
		body := random(rand.New(rand.NewPCG(1, uint64(n))), n)
		if got := write(t, 9, body); !bytes.Equal(got, framed(n, 9, body)) || len(got) != frame.Weight(n) {
			t.Errorf("a body of %d bytes: %d bytes", n, len(got))
		}
	}
}

// P6.1: what isn't a frame isn't written; the kind is told ahead of the body.
func TestWriteWrong(t *testing.T) {
	for _, r := range []struct {
		kind, n int
		want    api.Errno
	}{
		{0, 2, api.ErrArg}, {-1, 2, api.ErrArg}, {256, 2, api.ErrArg}, {257, 0, api.ErrArg}, {-255, 0, api.ErrArg}, {1 << 32, 2, api.ErrArg}, {1<<32 + 7, 2, api.ErrArg}, {math.MaxInt, 2, api.ErrArg}, {math.MinInt, 2, api.ErrArg}, {math.MinInt + 1, 2, api.ErrArg},
		{1, 4097, api.ErrLong}, {255, 4097, api.ErrLong}, {7, 8192, api.ErrLong}, {7, 1 << 16, api.ErrLong}, {7, 1<<16 + 2, api.ErrLong}, {7, 1 << 20, api.ErrLong},
		{0, 4097, api.ErrArg}, {256, 4097, api.ErrArg}, {-1, 1 << 16, api.ErrArg},
	} {
		if got, e := frame.Write(frame.Frame{Kind: r.kind, Body: make([]byte, r.n)}); got != nil || e != r.want {
			t.Errorf("Write of kind %d, %d bytes: %d bytes, error %d, not %d", r.kind, r.n, len(got), e, r.want)
		}
	}
	if _, e := frame.Write(frame.Frame{}); e != api.ErrArg {
		t.Errorf("Write of the zero frame: error %d", e)
	}
}

// P6.2: what is written is read as it, whatever stands behind; a proper beginning of it is ErrShort.
func TestWrittenIsRead(t *testing.T) {
	rnd := rand.New(rand.NewPCG(2, 2))
	check := func(kind, n int) {
		t.Helper()
		f := frame.Frame{Kind: kind, Body: random(rnd, n)}
		b := write(t, kind, f.Body)
		for _, behind := range [][]byte{nil, {0}, b, random(rnd, 9)} {
			got, size, e := frame.Read(slices.Concat(b, behind))
			if !same(got, f) || size != len(b) || e != api.OK {
				t.Errorf("kind %d, %d bytes: kind %d, %d bytes, size %d, error %d", kind, n, got.Kind, len(got.Body), size, e)
			}
		}
		for end := 0; end < len(b); end += 1 + end/64 {
			got, size, e := frame.Read(b[:end])
			if got.Kind != 0 || got.Body != nil || size != 0 || e != api.ErrShort {
				t.Errorf("the first %d of %d bytes: kind %d, size %d, error %d", end, len(b), got.Kind, size, e)
			}
		}
		if _, _, e := frame.Read(b[:len(b)-1]); e != api.ErrShort {
			t.Errorf("all of %d bytes but the last one: error %d", len(b), e)
		}
	}
	for kind := 1; kind <= 255; kind++ {
		check(kind, rnd.IntN(20))
	}
	for n := range 70 {
		check(1+rnd.IntN(255), n)
	}
	for _, n := range []int{255, 256, 257, 512, 4000, 4095, 4096} {
		check(1+rnd.IntN(255), n)
	}
}

// P6.1: bytes that don't begin with a frame, by hand: the errors in the order in which the document looks for them.
func TestReadWrongByHand(t *testing.T) {
	turned := func(b []byte) []byte {
		b[len(b)-1] ^= 1
		return b
	}
	for _, r := range []struct {
		what string
		b    []byte
		want api.Errno
	}{
		{"nil", nil, api.ErrShort}, {"no bytes", []byte{}, api.ErrShort}, {"one byte", []byte{0}, api.ErrShort}, {"one byte of a length", []byte{1}, api.ErrShort}, {"one byte of 255", []byte{255}, api.ErrShort},
		{"the least length", []byte{0, 0}, api.ErrShort}, {"no sum", []byte{0, 0, 1}, api.ErrShort}, {"kind 0, no sum", []byte{0, 0, 0}, api.ErrShort}, {"half a sum, wrong", []byte{0, 0, 0, 1, 2, 3}, api.ErrShort},
		{"the greatest length", []byte{0, 16}, api.ErrShort}, {"the greatest length, one byte less", make([]byte, 4102), api.ErrSum}, {"4096 told, one byte less", framed(4096, 1, make([]byte, 4095)), api.ErrShort},
		{"4097 told", []byte{1, 16}, api.ErrLong}, {"4352 told", []byte{0, 17}, api.ErrLong}, {"65535 told", []byte{255, 255}, api.ErrLong}, {"4097 told, kind 0", []byte{1, 16, 0}, api.ErrLong}, {"32768 told", []byte{0, 128, 1, 2, 3}, api.ErrLong},
		{"4097 bytes, a right sum", framed(4097, 7, make([]byte, 4097)), api.ErrLong}, {"65535 bytes, a right sum", framed(65535, 7, make([]byte, 65535)), api.ErrLong}, {"4097 bytes, another sum", turned(framed(4097, 0, make([]byte, 4097))), api.ErrLong},
		{"another sum", turned(framed(2, 7, []byte("ab"))), api.ErrSum}, {"another sum, kind 0", turned(framed(2, 0, []byte("ab"))), api.ErrSum}, {"only noughts", make([]byte, 7), api.ErrSum}, {"more noughts", make([]byte, 100), api.ErrSum},
		{"kind 0", framed(2, 0, []byte("ab")), api.ErrForm}, {"kind 0, no body", framed(0, 0, nil), api.ErrForm}, {"kind 0, 4096 bytes", framed(4096, 0, make([]byte, 4096)), api.ErrForm}, {"kind 0, more behind", append(framed(0, 0, nil), framed(0, 1, nil)...), api.ErrForm},
		{"the sum's bytes turned round", []byte{2, 0, 7, 'a', 'b', framed(2, 7, []byte("ab"))[8], framed(2, 7, []byte("ab"))[7], framed(2, 7, []byte("ab"))[6], framed(2, 7, []byte("ab"))[5]}, api.ErrSum},
		{"a sum of the body alone", append([]byte{2, 0, 7}, sealed([]byte("ab"))...), api.ErrSum}, {"a sum without the length", append([]byte{2, 0}, sealed([]byte("\x07ab"))...), api.ErrSum},
	} {
		got, n, e := frame.Read(r.b)
		if got.Kind != 0 || got.Body != nil || n != 0 || e != r.want {
			t.Errorf("%s: kind %d, %d bytes, size %d, error %d, not %d", r.what, got.Kind, len(got.Body), n, e, r.want)
		}
		if end, e := frame.End(r.b); end != 0 || len(r.b) > 0 && e != r.want {
			t.Errorf("%s: the last frame ends at %d, error %d, not %d", r.what, end, e, r.want)
		}
		for at := range frame.Scan(r.b) {
			t.Errorf("%s: a frame at %d", r.what, at)
		}
	}
}

// P6.1, P6.2: whatever the bytes, they are read as the document tells, and what is read is written as the same bytes.
func TestReadAsDefined(t *testing.T) {
	rnd := rand.New(rand.NewPCG(3, 3))
	for range 3000 {
		b := random(rnd, rnd.IntN(20))
		checkRead(t, "at random", b)
		b = framed(rnd.IntN(5), byte(rnd.IntN(3)), random(rnd, rnd.IntN(6)))
		checkRead(t, "another length told", b)
		checkRead(t, "cut", b[:rnd.IntN(len(b))])
		checkRead(t, "more behind", append(b, random(rnd, rnd.IntN(4))...))
		b[rnd.IntN(len(b))] ^= byte(1 + rnd.IntN(255))
		checkRead(t, "a byte turned", b)
	}
	for low := range 256 {
		for _, high := range []byte{0, 1, 15, 16, 17, 128, 255} {
			checkRead(t, "two bytes", []byte{byte(low), high})
			checkRead(t, "more bytes", append([]byte{byte(low), high}, make([]byte, 4102)...))
		}
	}
	for _, n := range []int{0, 3, 4096} {
		b := framed(n, 200, make([]byte, n))
		f, size, e := frame.Read(append(slices.Clone(b), "behind"...))
		if again := write(t, f.Kind, f.Body); e != api.OK || size != len(b) || !bytes.Equal(again, b) {
			t.Errorf("%d bytes are read and written as %d", n, len(again))
		}
	}
}

// turn turns those bits of bytes, from a place in their row on, that are 1 in run.
func turn(b []byte, place int, run uint32) {
	for i := range 32 {
		if run>>i&1 == 1 {
			b[(place+i)/8] ^= 1 << ((place + i) % 8)
		}
	}
}

// P6.3: with bits turned within a run of 32 the bytes aren't read as a frame of as many.
func TestTurnedBits(t *testing.T) {
	rnd := rand.New(rand.NewPCG(4, 4))
	for _, n := range []int{0, 1, 2, 5, 32, 60, 255, 256, 257, 1000, 4096} {
		b := framed(n, byte(1+rnd.IntN(255)), random(rnd, n))
		refused := func(place int, run uint32) {
			t.Helper()
			turn(b, place, run)
			if f, size, e := frame.Read(b); e == api.OK && size == len(b) {
				t.Errorf("%d bytes, turned by %08x at %d: read as kind %d, %d bytes", len(b), run, place, f.Kind, len(f.Body))
			}
			if len(b) < 400 {
				checkRead(t, "bits turned", b)
			}
			turn(b, place, run)
		}
		bits := 8 * len(b)
		step := 1 + bits/600
		for place := 0; place < bits; place += step {
			refused(place, 1)
			if place+32 <= bits {
				refused(place, math.MaxUint32)
				refused(place, 1<<31|1)
				refused(place, 1|rnd.Uint32())
				refused(place, 1<<rnd.IntN(32)|1<<rnd.IntN(32))
			}
		}
		for place := bits - 64; place <= bits-32; place++ {
			refused(max(place, 0), 1|rnd.Uint32())
		}
		if _, size, e := frame.Read(b); size != len(b) || e != api.OK {
			t.Errorf("bits turned back: size %d, error %d", size, e)
		}
	}
}

// row is some frames one behind the other, the places where they begin, and their end.
type row struct {
	b      []byte
	at     []int
	frames []frame.Frame
}

func rowOf(t *testing.T, rnd *rand.Rand, n int) row {
	t.Helper()
	var r row
	for range n {
		f := frame.Frame{Kind: 1 + rnd.IntN(255), Body: random(rnd, rnd.IntN(rnd.IntN(40)+1))}
		r.at, r.frames = append(r.at, len(r.b)), append(r.frames, f)
		r.b = append(r.b, write(t, f.Kind, f.Body)...)
	}
	return r
}

// checkScan holds what is gone over, up to a number of frames, against a row.
func checkScan(t *testing.T, what string, seq iter.Seq2[int, frame.Frame], r row, most int) {
	t.Helper()
	i := 0
	for at, f := range seq {
		if i >= len(r.at) || at != r.at[i] || !same(f, r.frames[i]) {
			t.Errorf("%s: frame %d at %d is kind %d, %q", what, i, at, f.Kind, f.Body)
			return
		}
		overwrite(f.Body)
		if i++; i == most {
			break
		}
	}
	if want := min(len(r.at), most); i != want {
		t.Errorf("%s: %d frames, not %d", what, i, want)
	}
}

// P6.1: frames one behind the other, up to the first that can't be read, each with its place; where they end, and why.
func TestScanEnd(t *testing.T) {
	rnd := rand.New(rand.NewPCG(5, 5))
	more := slices.Concat(framed(1, 1, []byte("y")), framed(0, 2, nil))
	for _, w := range []struct {
		what string
		rest []byte
		want api.Errno
	}{
		{"nothing", nil, api.OK}, {"a byte", []byte{7}, api.ErrShort}, {"a length", []byte{3, 0}, api.ErrShort}, {"a frame's beginning", framed(3, 7, []byte("abc"))[:9], api.ErrShort},
		{"a length too great", []byte{1, 16}, api.ErrLong}, {"kind 0", framed(1, 0, []byte("x")), api.ErrForm}, {"another sum", append(make([]byte, 7), 9), api.ErrSum},
		{"a length too great, and frames", append([]byte{1, 16}, more...), api.ErrLong}, {"kind 0, and frames", append(framed(1, 0, []byte("x")), more...), api.ErrForm}, {"another sum, and frames", append(make([]byte, 7), more...), api.ErrSum},
	} {
		for n := range 9 {
			r := rowOf(t, rnd, n)
			all := slices.Concat(r.b, w.rest)
			checkScan(t, w.what, frame.Scan(all), r, math.MaxInt)
			if end, e := frame.End(all); end != len(r.b) || e != w.want {
				t.Errorf("%s behind %d frames: end %d, error %d, not %d, %d", w.what, n, end, e, len(r.b), w.want)
			}
		}
	}
	if end, e := frame.End(nil); end != 0 || e != api.OK {
		t.Errorf("End of nil: %d, %d", end, e)
	}
}

// P6.1: it goes on only as long as more is asked for, and may be gone over more than once.
func TestScanGoesOn(t *testing.T) {
	r := rowOf(t, rand.New(rand.NewPCG(6, 6)), 6)
	seq := frame.Scan(append(slices.Clone(r.b), 1))
	for _, most := range []int{1, 3, 6, math.MaxInt, 2, math.MaxInt} {
		checkScan(t, "as long as more is asked for", seq, r, most)
	}
	for range seq {
		checkScan(t, "gone over within it", seq, r, math.MaxInt)
		break
	}
	calls := 0
	seq(func(int, frame.Frame) bool { calls++; return false })
	if calls != 1 {
		t.Errorf("asked for one: %d frames", calls)
	}
}

// P6.1: whatever the bytes, Scan and End answer as Read does, frame by frame.
func TestScanAsRead(t *testing.T) {
	rnd := rand.New(rand.NewPCG(7, 7))
	for range 1500 {
		b := rowOf(t, rnd, rnd.IntN(6)).b
		if len(b) > 0 && rnd.IntN(2) == 0 {
			b[rnd.IntN(len(b))] ^= 1 << rnd.IntN(8)
		}
		b = append(b, random(rnd, rnd.IntN(rnd.IntN(20)+1))...)
		var want row
		end, why := 0, api.OK
		for end < len(b) {
			f, size, e := readOf(b[end:])
			if why = e; e != api.OK {
				break
			}
			want.at, want.frames = append(want.at, end), append(want.frames, f)
			end += size
		}
		checkScan(t, "at random", frame.Scan(b), want, math.MaxInt)
		if got, e := frame.End(b); got != end || e != why {
			t.Errorf("End of %x: %d, %d, not %d, %d", b, got, e, end, why)
		}
	}
}

// P6.4: what is answered is new memory each time, spare room too.
func TestAnswersAreNew(t *testing.T) {
	f := frame.Frame{Kind: 7, Body: []byte("abc")}
	first, _ := frame.Write(f)
	second, _ := frame.Write(f)
	overwrite(append(first, 1))
	overwrite(first)
	if !bytes.Equal(second, framed(3, 7, []byte("abc"))) || string(f.Body) != "abc" {
		t.Errorf("an answer of Write that is written over: %x, %q", second, f.Body)
	}
	b := slices.Concat(second, second)
	was := slices.Clone(b)
	one, _, _ := frame.Read(b)
	other, _, _ := frame.Read(b)
	overwrite(append(one.Body, 1))
	overwrite(one.Body)
	if string(other.Body) != "abc" || !bytes.Equal(b, was) {
		t.Errorf("an answer of Read that is written over: %q, %x", other.Body, b)
	}
	seq := frame.Scan(b)
	var bodies [][]byte
	for range 2 {
		for _, f := range seq {
			bodies = append(bodies, f.Body)
			if len(bodies)%2 == 1 {
				overwrite(append(f.Body, "more than was there"...))
				overwrite(f.Body)
			}
		}
	}
	if len(bodies) != 4 || string(bodies[1]) != "abc" || string(bodies[3]) != "abc" || !bytes.Equal(b, was) {
		t.Errorf("answers of Scan that are written over: %q, %x", bodies, b)
	}
}

// P6.4: what is handed in stays, the memory behind it too, and may be written over behind the call.
func TestArguments(t *testing.T) {
	room := []byte("abc-behind it")
	b := write(t, 7, room[:3])
	if string(room) != "abc-behind it" {
		t.Errorf("a body is turned to %q", room)
	}
	overwrite(room)
	if !bytes.Equal(b, framed(3, 7, []byte("abc"))) {
		t.Errorf("a body is kept: %x", b)
	}
	all := slices.Concat(b, framed(1, 8, []byte("d")), []byte("\x05\x00-behind it"))
	was := slices.Clone(all)
	end := len(b) + 8
	got, _, _ := frame.Read(all[:len(b)])
	got.Body = append(got.Body, "more"...)
	seq := frame.Scan(all[:end])
	for _, f := range seq {
		f.Body = append(f.Body, "more"...)
	}
	if n, e := frame.End(all[:end]); n != end || e != api.OK {
		t.Errorf("End: %d, %d", n, e)
	}
	if !bytes.Equal(all, was) {
		t.Errorf("what is handed in is turned to %x", all)
	}
	checkScan(t, "ahead of it", seq, row{at: []int{0, len(b)}, frames: []frame.Frame{{Kind: 7, Body: []byte("abc")}, {Kind: 8, Body: []byte("d")}}}, math.MaxInt)
	overwrite(all)
	if string(got.Body) != "abcmore" {
		t.Errorf("what is handed in is kept: %q", got.Body)
	}
	checkScan(t, "written over behind the call", seq, row{at: []int{0, len(b)}, frames: []frame.Frame{{Kind: 7, Body: []byte("abc")}, {Kind: 8, Body: []byte("d")}}}, math.MaxInt)
}

// P6.1: as many frames as a device has room for are gone over in one go.
func TestManyFrames(t *testing.T) {
	one := framed(0, 3, nil)
	b := bytes.Repeat(one, 1<<20/len(one))
	n := 0
	for at, f := range frame.Scan(b) {
		if at != n*len(one) || f.Kind != 3 || len(f.Body) != 0 {
			t.Fatalf("frame %d at %d is kind %d", n, at, f.Kind)
		}
		n++
	}
	if end, e := frame.End(b); n*len(one) != len(b) || end != len(b) || e != api.OK {
		t.Errorf("%d frames, end %d, error %d", n, end, e)
	}
}
