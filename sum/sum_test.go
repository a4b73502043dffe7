// The tests of layer 3. Above each stands the promise that it holds the program to.
package sum_test

import (
	"bytes"
	"hash/crc32"
	"math"
	"math/bits"
	"math/rand/v2"
	"slices"
	"testing"

	"saleroom/sum"
)

// sumOf is the document's definition, bit by bit.
func sumOf(b []byte) uint32 {
	register := uint32(math.MaxUint32)
	for _, x := range b {
		register ^= uint32(x)
		for range 8 {
			out := register % 2
			register /= 2
			if out == 1 {
				register ^= 0x82F63B78
			}
		}
	}
	return math.MaxUint32 - register
}

// sealedOf is the bytes and behind them their sum, the lowest byte first.
func sealedOf(b []byte) []byte {
	s := sumOf(b)
	return slices.Concat(b, []byte{byte(s % 256), byte(s / 256 % 256), byte(s / 65536 % 256), byte(s / 16777216)})
}

// random is n bytes, the same ones each time for the same generator.
func random(rnd *rand.Rand, n int) []byte {
	b := make([]byte, n)
	for i := range b {
		b[i] = byte(rnd.Uint32())
	}
	return b
}

// rows are bytes of many lengths: of equal ones, rising, falling, and at random.
func rows() [][]byte {
	all := [][]byte{nil, {}, {0}, {1}, {128}, {255}, {0, 0}, {0, 1}, {1, 0}, []byte("a"), []byte("ab"), []byte("123456789"), []byte("a longer row of bytes, of more than four words")}
	rnd := rand.New(rand.NewPCG(1, 1))
	for n := range 70 {
		rising := random(rnd, n)
		for i := range rising {
			rising[i] = byte(i)
		}
		falling := slices.Clone(rising)
		slices.Reverse(falling)
		all = append(all, random(rnd, n), make([]byte, n), bytes.Repeat([]byte{255}, n), rising, falling)
	}
	for _, n := range []int{255, 256, 257, 1000, 4095, 4096, 4097, 1 << 16} {
		all = append(all, random(rnd, n))
	}
	return all
}

// partsOf cuts bytes into parts at random places, empty parts among them.
func partsOf(rnd *rand.Rand, b []byte) [][]byte {
	var parts [][]byte
	for len(b) > 0 {
		n := rnd.IntN(min(len(b), 9) + 1)
		parts = append(parts, b[:n])
		b = b[n:]
	}
	return append(parts, nil)
}

// P3.1: sums that others have told of Castagnoli's polynomial, and those of nothing.
func TestOfByHand(t *testing.T) {
	rising, falling := make([]byte, 32), make([]byte, 32)
	for i := range 32 {
		rising[i], falling[31-i] = byte(i), byte(i)
	}
	for _, r := range []struct {
		b    []byte
		want uint32
	}{
		{nil, 0}, {[]byte{}, 0}, {[]byte("123456789"), 0xE3069283}, {[]byte("a"), 0xC1D04330}, {[]byte("abc"), 0x364B3FB7},
		{make([]byte, 32), 0x8A9136AA}, {bytes.Repeat([]byte{255}, 32), 0x62A8AB43}, {rising, 0x46DD794E}, {falling, 0x113FDB5C},
		{[]byte("The quick brown fox jumps over the lazy dog"), 0x22620404},
	} {
		if got := sum.Of(r.b); got != r.want {
			t.Errorf("Of(%q): %08X, not %08X", r.b, got, r.want)
		}
	}
	for _, parts := range [][][]byte{nil, {}, {nil}, {nil, {}, nil}} {
		if got := sum.Of(parts...); got != 0 {
			t.Errorf("Of(%q): %08X, not 0", parts, got)
		}
	}
	if got := sum.Of(); got != 0 {
		t.Errorf("Of(): %08X, not 0", got)
	}
}

// P3.1: the sum is what the definition says, bit by bit.
func TestOfIsAsDefined(t *testing.T) {
	for _, b := range rows() {
		if got, want := sum.Of(b), sumOf(b); got != want {
			t.Errorf("Of(%.40q) of %d bytes: %08X, not %08X", b, len(b), got, want)
		}
	}
	for first := range 256 {
		for second := range 256 {
			b := []byte{byte(first), byte(second)}
			if got, want := sum.Of(b), sumOf(b); got != want {
				t.Errorf("Of(%q): %08X, not %08X", b, got, want)
			}
		}
	}
}

// P3.1: of long rows too.
func TestOfLongRows(t *testing.T) {
	table := crc32.MakeTable(crc32.Castagnoli)
	rnd := rand.New(rand.NewPCG(2, 2))
	for _, n := range []int{1<<20 - 1, 1 << 20, 3<<20 + 5} {
		b := random(rnd, n)
		if got, want := sum.Of(b), crc32.Checksum(b, table); got != want {
			t.Errorf("Of %d bytes: %08X, not %08X", n, got, want)
		}
	}
	if got, want := sum.Of(make([]byte, 1<<24)), crc32.Checksum(make([]byte, 1<<24), table); got != want {
		t.Errorf("Of 2^24 noughts: %08X, not %08X", got, want)
	}
}

// P3.1: the sum is the same in whatever parts bytes come, empty ones too.
func TestParts(t *testing.T) {
	rnd := rand.New(rand.NewPCG(3, 3))
	for _, b := range rows() {
		want := sumOf(b)
		for range 3 {
			parts := partsOf(rnd, b)
			if got := sum.Of(parts...); got != want {
				t.Errorf("Of(%.40q) in %d parts: %08X, not %08X", b, len(parts), got, want)
			}
			var got uint32
			for _, part := range parts {
				got = sum.Extend(got, part)
			}
			if got != want {
				t.Errorf("Extend to %.40q in %d parts: %08X, not %08X", b, len(parts), got, want)
			}
		}
	}
	b := random(rnd, 1<<16)
	var singles [][]byte
	for i := range b {
		singles = append(singles, b[i:i+1])
	}
	if got := sum.Of(singles...); got != sumOf(b) {
		t.Errorf("Of 2^16 parts: %08X, not %08X", got, sumOf(b))
	}
	if sum.Of([]byte("ab"), []byte("c")) == sum.Of([]byte("c"), []byte("ab")) {
		t.Error("parts in another order have the same sum")
	}
}

// P3.1: a sum is extended at every place, and by nothing to itself.
func TestExtend(t *testing.T) {
	for _, b := range [][]byte{[]byte("123456789"), make([]byte, 40), bytes.Repeat([]byte{255}, 40), random(rand.New(rand.NewPCG(4, 4)), 300)} {
		for at := range len(b) + 1 {
			if got, want := sum.Extend(sumOf(b[:at]), b[at:]), sumOf(b); got != want {
				t.Errorf("Extend at %d of %d bytes: %08X, not %08X", at, len(b), got, want)
			}
		}
	}
	table := crc32.MakeTable(crc32.Castagnoli)
	rnd := rand.New(rand.NewPCG(5, 5))
	sums := []uint32{0, 1, 255, 256, 0x7FFFFFFF, 0x80000000, math.MaxUint32, math.MaxUint32 - 1, 0x82F63B78, 0xE3069283}
	for range 100 {
		sums = append(sums, rnd.Uint32())
	}
	for _, s := range sums {
		if sum.Extend(s, nil) != s || sum.Extend(s, []byte{}) != s {
			t.Errorf("%08X is extended by nothing to %08X", s, sum.Extend(s, nil))
		}
		for _, b := range [][]byte{{0}, {255}, []byte("ab"), random(rnd, 17)} {
			if got, want := sum.Extend(s, b), crc32.Update(s, table, b); got != want {
				t.Errorf("Extend(%08X, %q): %08X, not %08X", s, b, got, want)
			}
		}
	}
}

// P3.1: bytes, and behind them their sum, the lowest byte first.
func TestSeal(t *testing.T) {
	for text, want := range map[string]string{
		"": "\x00\x00\x00\x00", "123456789": "123456789\x83\x92\x06\xE3", "a": "a\x30\x43\xD0\xC1",
	} {
		if got := sum.Seal([]byte(text)); string(got) != want {
			t.Errorf("Seal(%q): %q, not %q", text, got, want)
		}
	}
	if got := sum.Seal(nil); string(got) != "\x00\x00\x00\x00" {
		t.Errorf("Seal(nil): %q", got)
	}
	for _, b := range rows() {
		if got := sum.Seal(b); !bytes.Equal(got, sealedOf(b)) {
			t.Errorf("Seal(%.40q) of %d bytes: %.50q", b, len(b), got)
		}
	}
}

// P3.2, P5 of the whole: what is sealed is opened, and sealed twice it is opened twice.
func TestOpenWhatIsSealed(t *testing.T) {
	for _, b := range rows() {
		if got, ok := sum.Open(sealedOf(b)); !ok || !bytes.Equal(got, b) {
			t.Errorf("Open of %d bytes and their sum: %.40q, %v", len(b), got, ok)
		}
		twice := sum.Seal(sum.Seal(b))
		once, ok := sum.Open(twice)
		got, is := sum.Open(once)
		if !ok || !is || len(twice) != len(b)+8 || !bytes.Equal(got, b) {
			t.Errorf("sealed twice, %d bytes are opened as %.40q, %v, %v", len(b), got, ok, is)
		}
	}
}

// P3.1: fewer than four bytes aren't opened, and nothing stands beside false.
func TestOpenFewBytes(t *testing.T) {
	shorts := [][]byte{nil, {}, {0, 0}, {0, 0, 0}, {255, 255, 255}}
	for n := range 256 {
		shorts = append(shorts, []byte{byte(n)}, []byte{byte(n), 0}, []byte{byte(n), 0, 0})
	}
	for _, b := range shorts {
		if got, ok := sum.Open(b); ok || len(got) != 0 {
			t.Errorf("Open(%q): %q, %v", b, got, ok)
		}
	}
	if got, ok := sum.Open(make([]byte, 4)); !ok || len(got) != 0 {
		t.Errorf("Open of the sum of nothing: %q, %v", got, ok)
	}
}

// isSealed tells whether the last four bytes are the sum of those ahead: by chance others' may be, too.
func isSealed(b []byte) bool {
	return len(b) >= 4 && bytes.Equal(sealedOf(b[:len(b)-4]), b)
}

// P3.1: bytes with another sum behind them aren't opened, and nothing stands beside false.
func TestOpenOtherSums(t *testing.T) {
	refused := func(what string, b []byte) {
		t.Helper()
		if got, ok := sum.Open(b); !isSealed(b) && (ok || len(got) != 0) {
			t.Errorf("%s: Open(%.40q): %.40q, %v", what, b, got, ok)
		}
	}
	for _, other := range [][]byte{{1, 0, 0, 0}, {0, 1, 0, 0}, {0, 0, 0, 128}, {255, 255, 255, 255}} {
		refused("another sum of nothing", other)
	}
	for _, b := range rows() {
		sealed := sealedOf(b)
		n := len(b)
		refused("the last byte is missing", sealed[:n+3])
		refused("the sum is missing", b)
		refused("a byte more", append(slices.Clone(sealed), 0))
		refused("the sum ahead", slices.Concat(sealed[n:], b))
		refused("the sum's highest byte first", slices.Concat(b, []byte{sealed[n+3], sealed[n+2], sealed[n+1], sealed[n]}))
		for i := max(0, n-100); i < n+4; i++ {
			turned := slices.Clone(sealed)
			turned[i] = ^turned[i]
			refused("all bits of a byte turned", turned)
		}
		refused("all bits of the sum turned", slices.Concat(b, []byte{^sealed[n], ^sealed[n+1], ^sealed[n+2], ^sealed[n+3]}))
	}
}

// turnBits turns those bits of a row, from a bit on, that are 1 in the pattern.
func turnBits(b []byte, from int, pattern uint32) {
	for i := range 32 {
		if pattern>>i%2 == 1 {
			b[(from+i)/8] ^= 1 << ((from + i) % 8)
		}
	}
}

// patterns are runs of bits that are turned, of each length up to 32.
func patterns(rnd *rand.Rand) []uint32 {
	ps := []uint32{1, 0x82F63B78, 0x05EC76F1, 0x8F6E37A0, 0x1EDC6F41}
	for last := 1; last < 32; last++ {
		ends := uint32(1 | 1<<last)
		ps = append(ps, ends, uint32(1<<(last+1)-1), ends|rnd.Uint32()&(1<<last-1), ends|rnd.Uint32()&(1<<last-1))
	}
	return ps
}

// P3.2: bytes in which bits are turned within a run of 32 have another sum, and aren't opened.
func TestTurnedBits(t *testing.T) {
	rnd := rand.New(rand.NewPCG(6, 6))
	ps := patterns(rnd)
	for _, n := range []int{1, 2, 3, 4, 5, 8, 13, 40} {
		b := random(rnd, n)
		want, sealed := sum.Of(b), sum.Seal(b)
		for _, p := range ps {
			for from := range 8*len(sealed) - bits.Len32(p) + 1 {
				if from+bits.Len32(p) <= 8*n {
					turnBits(b, from, p)
					if sum.Of(b) == want {
						t.Errorf("%d bytes, turned by %08X from bit %d on, have the same sum", n, p, from)
					}
					turnBits(b, from, p)
				}
				turnBits(sealed, from, p)
				if got, ok := sum.Open(sealed); ok || len(got) != 0 {
					t.Errorf("%d bytes and their sum, turned by %08X from bit %d on, are opened", n, p, from)
				}
				turnBits(sealed, from, p)
			}
		}
	}
}

// P3.2: in a long row too, at its beginning, its end and between.
func TestTurnedBitsOfLongRow(t *testing.T) {
	rnd := rand.New(rand.NewPCG(7, 7))
	b := random(rnd, 4096)
	want := sum.Of(b)
	for _, p := range patterns(rnd) {
		last := 8*len(b) - bits.Len32(p)
		for _, from := range []int{0, 1, 8, last, rnd.IntN(last), rnd.IntN(last)} {
			turnBits(b, from, p)
			if sum.Of(b) == want {
				t.Errorf("turned by %08X from bit %d on it has the same sum", p, from)
			}
			turnBits(b, from, p)
		}
	}
}

// overwrite writes over an answer, its spare room too.
func overwrite(b []byte) {
	b = b[:cap(b)]
	for i := range b {
		b[i] = 0xEE
	}
}

// P3.3: arguments stay, the memory behind their lengths too.
func TestArgumentsStay(t *testing.T) {
	for _, b := range rows() {
		room := slices.Concat(b, sealedOf(b)[len(b):], []byte("behind it"))
		was := slices.Clone(room)
		part := room[:len(b)]
		sealed := room[:len(b)+4]
		parts := [][]byte{part, part, nil, []byte("more")}
		sum.Of(part)
		sum.Of(parts[:2]...)
		sum.Extend(7, part)
		sum.Seal(part)
		sum.Seal(sealed)
		sum.Open(part)
		if _, ok := sum.Open(sealed); !ok {
			t.Errorf("%d bytes and their sum aren't opened", len(b))
		}
		if !bytes.Equal(room, was) {
			t.Errorf("%d bytes and those behind are turned from %.60q to %.60q", len(b), was, room)
		}
		if !bytes.Equal(parts[0], b) || !bytes.Equal(parts[1], b) || parts[2] != nil || string(parts[3]) != "more" {
			t.Errorf("the list of parts is turned to %.60q", parts)
		}
	}
}

// P3.3: answers are new memory, spare room too: what was handed in may be written over, and so may another answer.
func TestAnswersAreNew(t *testing.T) {
	for _, b := range rows() {
		want := slices.Clone(b)
		argument := append(make([]byte, 0, len(b)+20), b...)
		first, second := sum.Seal(argument), sum.Seal(argument)
		overwrite(argument)
		if !bytes.Equal(first, sealedOf(want)) {
			t.Errorf("what was sealed of %d bytes lies in their memory", len(b))
		}
		opened, ok := sum.Open(first)
		again, is := sum.Open(first)
		overwrite(first)
		if !ok || !is || !bytes.Equal(opened, want) || !bytes.Equal(second, sealedOf(want)) {
			t.Errorf("answers of %d bytes share memory with what was sealed", len(b))
		}
		overwrite(opened)
		if !bytes.Equal(again, want) {
			t.Errorf("two answers of %d bytes that were opened share memory", len(b))
		}
	}
}

// P3.3: an answer that is written over turns none of its arguments.
func TestAnswersLeaveArguments(t *testing.T) {
	for _, b := range rows() {
		sealed := append(sealedOf(b), "behind it"...)
		was := slices.Clone(sealed)
		opened, _ := sum.Open(sealed[:len(b)+4])
		overwrite(opened)
		overwrite(sum.Seal(sealed[:len(b)]))
		overwrite(append(opened, 1))
		if !bytes.Equal(sealed, was) {
			t.Errorf("an answer of %d bytes lies in its argument's memory", len(b))
		}
	}
}

// P2 of the whole: the same arguments are answered the same, whatever was asked between.
func TestAnswersHangOnArguments(t *testing.T) {
	all := func() []byte {
		var got []byte
		for i, b := range rows() {
			opened, ok := sum.Open(b)
			got = append(got, sum.Seal(b)...)
			got = append(got, opened...)
			s := sum.Extend(sum.Of(b, opened), []byte{byte(i)})
			got = append(got, byte(s), byte(s>>8), byte(s>>16), byte(s>>24))
			if ok {
				got = append(got, 1)
			}
		}
		return got
	}
	first := all()
	for range 3 {
		if !bytes.Equal(all(), first) {
			t.Error("the same arguments are answered otherwise")
		}
	}
}
