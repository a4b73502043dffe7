// The tests of layer 24. Above each stands the promise that it holds the program to.
package command_test

import (
	"encoding/binary"
	"fmt"
	"math"
	"math/rand/v2"
	"slices"
	"strings"
	"testing"
	"time"

	"saleroom/api"
	"saleroom/command"
)

const big int64 = 1 << 40 // the greatest amount, Seq and Count

// numbers are numbers at the ends of all ranges.
var numbers = []int64{math.MinInt64, math.MinInt64 + 1, -big, -1000, -2, -1, 0, 1, 2, 11, 12, 127, 128, 255, 256, 300, 999, 1000, 1001, 1 << 14, 1 << 21, big - 1, big, big + 1, 1 << 50, math.MaxInt64 - 1, math.MaxInt64}

// names are the kinds' names, from the first one on.
var names = strings.Fields("deposit withdraw create register submit close step run invoice settle refund")

// belongs tells what belongs to each kind: of party, amount, count, reserves, atoms, by their first letters, which differ (t of atoms).
var belongs = strings.Split("pa pa cr p pt ac c c   p", " ")

// atoms are atoms told as sets and values in turn.
func atoms(numbers ...int64) []api.Atom {
	var as []api.Atom
	for i := 0; i < len(numbers); i += 2 {
		as = append(as, api.Atom{Set: uint64(numbers[i]), Value: numbers[i+1]})
	}
	return as
}

// list is amounts, as a list.
func list(ns ...int64) []int64 { return ns }

// isAmount tells whether a number is an amount.
func isAmount(n int64) bool { return n >= 0 && n <= big }

// isRight is what Right is held to.
func isRight(c api.Command) bool {
	if c.Kind < 1 || c.Kind > 11 || c.Seq < 1 || c.Seq > big {
		return false
	}
	has := func(part string) bool { return strings.Contains(belongs[c.Kind-1], part) }
	if c.Party != 0 && !has("p") || c.Amount != 0 && !has("a") || c.Count != 0 && !has("c") || len(c.Reserves) > 0 && !has("r") || len(c.Atoms) > 0 && !has("t") {
		return false
	}
	if c.Party < 0 || c.Party > 1000 || !isAmount(c.Amount) || c.Count < 0 || c.Count > 1<<40 || len(c.Reserves) > 64 || len(c.Atoms) > 64 {
		return false
	}
	return !slices.ContainsFunc(c.Reserves, func(n int64) bool { return !isAmount(n) }) && !slices.ContainsFunc(c.Atoms, func(a api.Atom) bool { return !isAmount(a.Value) })
}

// bytesOf is what Write is held to, of a command that is right.
func bytesOf(c api.Command) []byte {
	all := []uint64{uint64(c.Seq), uint64(c.Kind), uint64(c.Party), uint64(c.Amount), uint64(c.Count), uint64(len(c.Reserves))}
	for _, n := range c.Reserves {
		all = append(all, uint64(n))
	}
	all = append(all, uint64(len(c.Atoms)))
	for _, a := range c.Atoms {
		all = append(all, a.Set, uint64(a.Value))
	}
	return wholes(all...)
}

// wholes are whole numbers as bytes.
func wholes(ns ...uint64) []byte {
	var b []byte
	for _, n := range ns {
		b = binary.AppendUvarint(b, n)
	}
	return b
}

// reader is what Read is held to: it reads whole numbers, and keeps what goes wrong first.
type reader struct {
	rest []byte
	err  api.Errno
}

func (r *reader) whole() uint64 {
	if r.err != api.OK {
		return 0
	}
	last := slices.IndexFunc(r.rest, func(x byte) bool { return x < 128 })
	if last < 0 {
		r.err = api.ErrShort
		return 0
	}
	n, size := binary.Uvarint(r.rest)
	if size != last+1 || last > 0 && r.rest[last] == 0 { // too great a number, or not as few bytes as may be
		r.err = api.ErrForm
		return 0
	}
	r.rest = r.rest[size:]
	return n
}

func (r *reader) many() int {
	n := r.whole()
	if r.err == api.OK && n > 64 {
		r.err = api.ErrMany
		return 0
	}
	return int(n)
}

// commandOf is what Read is held to.
func commandOf(b []byte) (api.Command, api.Errno) {
	r := &reader{rest: b}
	var c api.Command
	c.Seq, c.Kind, c.Party, c.Amount, c.Count = int64(r.whole()), int(r.whole()), int(r.whole()), int64(r.whole()), int(r.whole())
	for range r.many() {
		c.Reserves = append(c.Reserves, int64(r.whole()))
	}
	for range r.many() {
		c.Atoms = append(c.Atoms, api.Atom{Set: r.whole(), Value: int64(r.whole())})
	}
	if r.err != api.OK {
		return api.Command{}, r.err
	}
	if len(r.rest) > 0 || !isRight(c) {
		return api.Command{}, api.ErrForm
	}
	return c, api.OK
}

// tellOf is what Tell is held to.
func tellOf(c api.Command) string {
	name := "?"
	if c.Kind >= 1 && c.Kind <= 11 {
		name = names[c.Kind-1]
	}
	s := fmt.Sprintf("#%d %s", c.Seq, name)
	if c.Party != 0 {
		s += fmt.Sprintf(" party=%d", c.Party)
	}
	if c.Amount != 0 {
		s += fmt.Sprintf(" amount=%d", c.Amount)
	}
	if c.Count != 0 {
		s += fmt.Sprintf(" count=%d", c.Count)
	}
	for i, n := range c.Reserves {
		s += fmt.Sprintf("%s%d", lead(i, " reserves="), n)
	}
	for i, a := range c.Atoms {
		s += fmt.Sprintf("%s{%s}:%d", lead(i, " atoms="), itemsOf(a.Set), a.Value)
	}
	return s
}

// lead stands ahead of a list's thing.
func lead(i int, first string) string {
	if i == 0 {
		return first
	}
	return ","
}

// itemsOf are a set's items in words.
func itemsOf(s uint64) string {
	var words []string
	for i := range 64 {
		if s>>i&1 == 1 {
			words = append(words, fmt.Sprint(i))
		}
	}
	return strings.Join(words, ",")
}

// sameOf is what Same is held to.
func sameOf(a, b api.Command) bool { return fmt.Sprintf("%+v", a) == fmt.Sprintf("%+v", b) }

// checkCommand: a command, right or wrong, answers all that it should.
func checkCommand(t *testing.T, c api.Command) {
	t.Helper()
	right := isRight(c)
	if command.Right(c) != right {
		t.Errorf("Right of %+v: %v", c, !right)
	}
	if got := command.Tell(c); got != tellOf(c) {
		t.Errorf("Tell of %+v: %q, not %q", c, got, tellOf(c))
	}
	b, e := command.Write(c)
	if !right {
		if e != api.ErrArg || b != nil {
			t.Errorf("Write of %+v: %x, %d", c, b, e)
		}
		return
	}
	if e != api.OK || !slices.Equal(b, bytesOf(c)) {
		t.Errorf("Write of %+v: %x, %d, not %x", c, b, e, bytesOf(c))
	}
	got, e := command.Read(b)
	if e != api.OK || !sameOf(got, c) || !command.Same(got, c) {
		t.Errorf("what is written of %+v is read as %+v, %d", c, got, e)
	}
	if command.Fixed(c.Kind) && len(b) > 40 {
		t.Errorf("%+v takes %d bytes", c, len(b))
	}
}

// checkBytes: bytes are read as they should be, and written as the same ones.
func checkBytes(t *testing.T, b []byte) api.Errno {
	t.Helper()
	want, e := commandOf(b)
	got, f := command.Read(b)
	if f != e || !sameOf(got, want) {
		t.Errorf("Read of %x: %+v, %d, not %+v, %d", b, got, f, want, e)
	}
	if f != api.OK {
		return e
	}
	if again, e := command.Write(got); e != api.OK || !slices.Equal(again, b) || !command.Right(got) {
		t.Errorf("what is read of %x is written as %x, %d", b, again, e)
	}
	return e
}

// rightAtRandom is a right command, each of whose parts may be nothing.
func rightAtRandom(rnd *rand.Rand, most int) api.Command {
	c := api.Command{Seq: 1 + rnd.Int64N(1<<rnd.IntN(41)), Kind: 1 + rnd.IntN(11)}
	has := func(part string) bool { return strings.Contains(belongs[c.Kind-1], part) && rnd.IntN(5) > 0 }
	if has("p") {
		c.Party = rnd.IntN(1001)
	}
	if has("a") {
		c.Amount = rnd.Int64N(big + 1)
	}
	if has("c") {
		c.Count = int(rnd.Int64N(1 << rnd.IntN(41)))
	}
	for has("r") && len(c.Reserves) < most {
		c.Reserves = append(c.Reserves, rnd.Int64N(1<<rnd.IntN(41)))
	}
	for has("t") && len(c.Atoms) < most {
		c.Atoms = append(c.Atoms, api.Atom{Set: rnd.Uint64() >> rnd.IntN(64), Value: rnd.Int64N(1 << rnd.IntN(41))})
	}
	return c
}

// spoiled is a command of which something is another one.
func spoiled(rnd *rand.Rand, c api.Command) api.Command {
	n := numbers[rnd.IntN(len(numbers))]
	switch rnd.IntN(7) {
	case 0:
		c.Seq = n
	case 1:
		c.Kind = int(n)
	case 2:
		c.Party = int(n)
	case 3:
		c.Amount = n
	case 4:
		c.Count = int(n)
	case 5:
		c.Reserves = append(slices.Clone(c.Reserves), n)
	case 6:
		c.Atoms = append(slices.Clone(c.Atoms), api.Atom{Set: rnd.Uint64(), Value: n})
	}
	return c
}

// soon fails a test in which a call doesn't end.
func soon(t *testing.T, what string, do func()) {
	t.Helper()
	done := make(chan struct{})
	go func() {
		defer close(done)
		do()
	}()
	select {
	case <-done:
	case <-time.After(60 * time.Second):
		t.Fatalf("%s doesn't end", what)
	}
}

// P24.1, P24.2: the document's example.
func TestExample(t *testing.T) {
	c := api.Command{Seq: 1, Kind: api.CmdDeposit, Party: 2, Amount: 5}
	b, e := command.Write(c)
	if e != api.OK || string(b) != "\x01\x01\x02\x05\x00\x00\x00" || command.Tell(c) != "#1 deposit party=2 amount=5" {
		t.Errorf("%x, %d, %q", b, e, command.Tell(c))
	}
	if got, e := command.Read([]byte("\x01\x01\x02\x05\x00\x00\x00")); e != api.OK || !command.Same(got, c) {
		t.Errorf("%+v, %d", got, e)
	}
}

// P24.1, P24.2: a command of each kind, by hand: its bytes, and its words.
func TestByHand(t *testing.T) {
	for _, r := range []struct {
		c     api.Command
		bytes string
		words string
	}{
		{api.Command{Seq: 1, Kind: 1, Party: 1000, Amount: big}, "\x01\x01\xe8\x07\x80\x80\x80\x80\x80\x20\x00\x00\x00", "#1 deposit party=1000 amount=1099511627776"},
		{api.Command{Seq: 128, Kind: 2, Party: 2, Amount: 127}, "\x80\x01\x02\x02\x7f\x00\x00\x00", "#128 withdraw party=2 amount=127"},
		{api.Command{Seq: 3, Kind: 3, Count: 3, Reserves: list(0, 300, 1)}, "\x03\x03\x00\x00\x03\x03\x00\xac\x02\x01\x00", "#3 create count=3 reserves=0,300,1"},
		{api.Command{Seq: 3, Kind: 3}, "\x03\x03\x00\x00\x00\x00\x00", "#3 create"},
		{api.Command{Seq: 4, Kind: 4, Party: 9}, "\x04\x04\x09\x00\x00\x00\x00", "#4 register party=9"},
		{api.Command{Seq: 5, Kind: 5, Party: 3, Atoms: atoms(5, 300, 0, 0, 1<<10, 1)}, "\x05\x05\x03\x00\x00\x00\x03\x05\xac\x02\x00\x00\x80\x08\x01", "#5 submit party=3 atoms={0,2}:300,{}:0,{10}:1"},
		{api.Command{Seq: 5, Kind: 5, Atoms: atoms(-1<<63, 1)}, "\x05\x05\x00\x00\x00\x00\x01\x80\x80\x80\x80\x80\x80\x80\x80\x80\x01\x01", "#5 submit atoms={63}:1"},
		{api.Command{Seq: 6, Kind: 6, Amount: 2, Count: 50}, "\x06\x06\x00\x02\x32\x00\x00", "#6 close amount=2 count=50"},
		{api.Command{Seq: 7, Kind: 7, Count: 1}, "\x07\x07\x00\x00\x01\x00\x00", "#7 step count=1"},
		{api.Command{Seq: 8, Kind: 8, Count: 1 << 40}, "\x08\x08\x00\x00\x80\x80\x80\x80\x80\x20\x00\x00", "#8 run count=1099511627776"},
		{api.Command{Seq: 9, Kind: 9}, "\x09\x09\x00\x00\x00\x00\x00", "#9 invoice"},
		{api.Command{Seq: big, Kind: 10}, "\x80\x80\x80\x80\x80\x20\x0a\x00\x00\x00\x00\x00", "#1099511627776 settle"},
		{api.Command{Seq: 11, Kind: 11, Party: 300}, "\x0b\x0b\xac\x02\x00\x00\x00\x00", "#11 refund party=300"},
	} {
		b, e := command.Write(r.c)
		if string(b) != r.bytes || e != api.OK || command.Tell(r.c) != r.words || !command.Right(r.c) {
			t.Errorf("%+v: %x, %d, %q", r.c, b, e, command.Tell(r.c))
		}
		got, e := command.Read([]byte(r.bytes))
		if e != api.OK || !command.Same(got, r.c) || !sameOf(got, r.c) {
			t.Errorf("%x: %+v, %d", r.bytes, got, e)
		}
		checkCommand(t, r.c)
	}
}

// P24.1: what is right, number by number, of each kind.
func TestRight(t *testing.T) {
	for kind := -1; kind <= 13; kind++ {
		base := api.Command{Seq: 1, Kind: kind}
		checkCommand(t, base)
		for _, n := range numbers {
			for _, turn := range []func(c *api.Command){
				func(c *api.Command) { c.Seq = n },
				func(c *api.Command) { c.Party = int(n) },
				func(c *api.Command) { c.Amount = n },
				func(c *api.Command) { c.Count = int(n) },
				func(c *api.Command) { c.Reserves = list(n) },
				func(c *api.Command) { c.Reserves = list(0, 3, n) },
				func(c *api.Command) { c.Atoms = atoms(7, n) },
				func(c *api.Command) { c.Atoms = atoms(n, 7) },
				func(c *api.Command) { c.Atoms = atoms(1, 1, n, 0, 2, n) },
			} {
				c := base
				turn(&c)
				checkCommand(t, c)
			}
		}
	}
	for _, n := range numbers {
		checkCommand(t, api.Command{Seq: 1, Kind: int(n)})
	}
}

// P24.1: lists as long as may be, and longer ones.
func TestLists(t *testing.T) {
	for _, n := range []int{0, 1, 2, 63, 64, 65, 66, 128, 1000} {
		for _, kind := range []int{api.CmdCreate, api.CmdSubmit, api.CmdClose, api.CmdInvoice} {
			checkCommand(t, api.Command{Seq: 5, Kind: kind, Reserves: make([]int64, n)})
			checkCommand(t, api.Command{Seq: 5, Kind: kind, Atoms: make([]api.Atom, n)})
			checkCommand(t, api.Command{Seq: 5, Kind: kind, Reserves: []int64{}, Atoms: []api.Atom{}})
		}
		checkBytes(t, bytesOf(api.Command{Seq: 5, Kind: api.CmdCreate, Reserves: make([]int64, n)}))
		checkBytes(t, bytesOf(api.Command{Seq: 5, Kind: api.CmdSubmit, Atoms: make([]api.Atom, n)}))
	}
	greatest := api.Command{Seq: big, Kind: api.CmdSubmit, Party: 1000, Atoms: slices.Repeat(atoms(-1, big), 64)}
	checkCommand(t, greatest)
	checkCommand(t, api.Command{Seq: big, Kind: api.CmdCreate, Count: 1 << 40, Reserves: slices.Repeat(list(big), 64)})
}

// P24.1, P24.2: commands at random, right ones and some of which something is another one.
func TestAtRandom(t *testing.T) {
	rnd := rand.New(rand.NewPCG(1, 24))
	right := 0
	for n := range 20000 {
		c := rightAtRandom(rnd, 1+n%64)
		if !isRight(c) {
			t.Fatalf("%+v isn't right", c)
		}
		checkCommand(t, c)
		c = spoiled(rnd, c)
		if isRight(c) {
			right++
		}
		checkCommand(t, c)
	}
	if right < 2000 || right > 15000 {
		t.Errorf("%d of those with another part are right", right)
	}
}

// P24.1: bytes of which there is no command, and what is told first of them.
func TestWrongBytes(t *testing.T) {
	for _, c := range []struct {
		bytes string
		want  api.Errno
	}{
		{"", api.ErrShort}, {"\x01", api.ErrShort}, {"\x01\x09\x00\x00\x00\x00", api.ErrShort}, {"\x80", api.ErrShort}, {"\x01\x03\x00\x00\x00\x40", api.ErrShort}, {"\x01\x05\x00\x00\x00\x00\x01\x01", api.ErrShort},
		{"\x01\x09\x00\x00\x00\x00\x00\x00", api.ErrForm}, {"\x01\x09\x00\x00\x00\x00\x00\x80", api.ErrForm}, // one byte is left
		{"\x81\x00\x09\x00\x00\x00\x00\x00", api.ErrForm}, {"\x01\x09\x00\x00\x00\x80\x00\x00", api.ErrForm}, // not as few as may be
		{"\xff\xff\xff\xff\xff\xff\xff\xff\xff\x02\x09\x00\x00\x00\x00\x00", api.ErrForm}, {"\xff\xff\xff\xff\xff\xff\xff\xff\xff\xff\x01\x09\x00\x00\x00\x00\x00", api.ErrForm}, // too great a number
		{"\x01\x03\x00\x00\x00\x41", api.ErrMany}, {"\x01\x09\x00\x00\x00\x41", api.ErrMany}, {"\x01\x05\x00\x00\x00\x00\x41\x00", api.ErrMany}, {"\x00\x0c\x00\x00\x00\x00\xff\xff\xff\xff\xff\xff\xff\xff\xff\x01", api.ErrMany},
		{"\x00\x09\x00\x00\x00\x00\x00", api.ErrForm}, {"\x01\x00\x00\x00\x00\x00\x00", api.ErrForm}, {"\x01\x0c\x00\x00\x00\x00\x00", api.ErrForm}, // no number, no kind
		{"\x01\x09\x01\x00\x00\x00\x00", api.ErrForm}, {"\x01\x09\x00\x01\x00\x00\x00", api.ErrForm}, {"\x01\x09\x00\x00\x01\x00\x00", api.ErrForm}, {"\x01\x09\x00\x00\x00\x01\x00\x00", api.ErrForm}, {"\x01\x09\x00\x00\x00\x00\x01\x00\x00", api.ErrForm}, // what doesn't belong to it
		{"\x01\x01\xe9\x07\x00\x00\x00\x00", api.ErrForm}, {"\x01\x01\x00\x81\x80\x80\x80\x80\x20\x00\x00\x00", api.ErrForm}, {"\x01\x08\x00\x00\x81\x80\x80\x80\x80\x20\x00\x00", api.ErrForm}, // beyond their ranges
		{"\x01\x01\xff\xff\xff\xff\xff\xff\xff\xff\xff\x01\x00\x00\x00\x00", api.ErrForm}, {"\x80\x80\x80\x80\x80\x80\x80\x80\x80\x01\x09\x00\x00\x00\x00\x00", api.ErrForm}, // of all 64 bits, of the highest one alone
		{"\x00\x0c\x00", api.ErrShort}, {"\x00\x0c\x00\x00\x00\x00\x41", api.ErrMany}, // layer 5's errors stand ahead
	} {
		if e := checkBytes(t, []byte(c.bytes)); e != c.want {
			t.Errorf("%x: it is held to %d, not %d", c.bytes, e, c.want)
		}
	}
}

// P24.1, P24.2: bytes at random, and bytes of commands of which some are others, cut off, or laid behind.
func TestBytesAtRandom(t *testing.T) {
	rnd := rand.New(rand.NewPCG(2, 24))
	seen := map[api.Errno]int{}
	for n := range 30000 {
		b := bytesOf(rightAtRandom(rnd, 1+n%5))
		switch n % 6 {
		case 0, 1:
			b[rnd.IntN(len(b))] = byte(rnd.IntN(256))
		case 2:
			b[rnd.IntN(len(b))] ^= 1 << rnd.IntN(8)
		case 3:
			b = b[:rnd.IntN(len(b))]
		case 4:
			b = append(b, make([]byte, rnd.IntN(3))...)
		case 5:
			b = make([]byte, rnd.IntN(12))
			for i := range b {
				b[i] = byte(rnd.IntN(1 << (1 + rnd.IntN(8))))
			}
		}
		seen[checkBytes(t, b)]++
	}
	for _, e := range []api.Errno{api.OK, api.ErrShort, api.ErrForm, api.ErrMany} {
		if seen[e] < 50 {
			t.Errorf("%d alone are answered %d", seen[e], e)
		}
	}
}

// P24.1, P24.2: a command of which one byte is any other one, and which is cut off or longer there.
func TestEachByte(t *testing.T) {
	base := bytesOf(api.Command{Seq: 2, Kind: api.CmdSubmit, Party: 3, Atoms: atoms(1, 2, 3, 200)})
	for i := range base {
		for x := range 256 {
			b := slices.Clone(base)
			b[i] = byte(x)
			checkBytes(t, b)
			checkBytes(t, b[:i+1])
			checkBytes(t, append(slices.Clone(b), byte(x)))
		}
	}
}

// P24.1: commands are the same, if all of theirs is; a list that is nil is an empty one.
func TestSame(t *testing.T) {
	rnd := rand.New(rand.NewPCG(3, 24))
	for range 3000 {
		a := rightAtRandom(rnd, 3)
		b := a
		b.Reserves, b.Atoms = append([]int64{}, a.Reserves...), append([]api.Atom{}, a.Atoms...)
		if !command.Same(a, b) || !command.Same(b, a) {
			t.Errorf("%+v isn't the same as it", a)
		}
		c := spoiled(rnd, a)
		if command.Same(a, c) != sameOf(a, c) || command.Same(c, a) != sameOf(a, c) {
			t.Errorf("%+v and %+v: %v", a, c, command.Same(a, c))
		}
	}
	base := api.Command{Seq: -7, Kind: 99, Party: -1, Amount: -2, Count: -3, Reserves: list(1, 2), Atoms: atoms(1, 2, 3, 4)}
	for i, turn := range []func(c *api.Command){
		func(c *api.Command) { c.Seq++ }, func(c *api.Command) { c.Kind++ }, func(c *api.Command) { c.Party++ }, func(c *api.Command) { c.Amount++ }, func(c *api.Command) { c.Count++ },
		func(c *api.Command) { c.Reserves = list(1) }, func(c *api.Command) { c.Reserves = list(1, 3) }, func(c *api.Command) { c.Reserves = list(2, 1) }, func(c *api.Command) { c.Reserves = list(1, 2, 0) }, func(c *api.Command) { c.Reserves = nil },
		func(c *api.Command) { c.Atoms = atoms(1, 2) }, func(c *api.Command) { c.Atoms = atoms(1, 2, 3, 5) }, func(c *api.Command) { c.Atoms = atoms(1, 2, 4, 4) }, func(c *api.Command) { c.Atoms = atoms(3, 4, 1, 2) }, func(c *api.Command) { c.Atoms = nil },
	} {
		c := base
		turn(&c)
		if command.Same(base, c) || !command.Same(c, c) {
			t.Errorf("turn %d is the same", i)
		}
	}
}

// P24.1: names of all kinds, and of none; for which kinds room is set aside.
func TestKinds(t *testing.T) {
	fixed := []int{api.CmdStep, api.CmdRun, api.CmdInvoice, api.CmdSettle, api.CmdRefund}
	kinds := []int{math.MinInt, -5, -1, 12, 13, 256, 257, 1 << 32, 1<<32 + 1, math.MaxInt}
	for k := range 12 {
		kinds = append(kinds, k)
	}
	for _, k := range kinds {
		name := ""
		if k >= 1 && k <= 11 {
			name = names[k-1]
		}
		if command.Name(k) != name {
			t.Errorf("Name of %d: %q, not %q", k, command.Name(k), name)
		}
		if command.Fixed(k) != slices.Contains(fixed, k) {
			t.Errorf("Fixed of %d: %v", k, command.Fixed(k))
		}
	}
	if names[api.CmdDeposit-1] != "deposit" || names[api.CmdSubmit-1] != "submit" || names[api.CmdRefund-1] != "refund" {
		t.Error("the names' places")
	}
}

// P24.1: words of commands that aren't right.
func TestTell(t *testing.T) {
	for _, r := range []struct {
		c    api.Command
		want string
	}{
		{api.Command{}, "#0 ?"},
		{api.Command{Kind: 12}, "#0 ?"},
		{api.Command{Seq: -1, Kind: -1}, "#-1 ?"},
		{api.Command{Seq: math.MinInt64, Kind: 9, Party: math.MinInt, Amount: math.MaxInt64, Count: -1}, "#-9223372036854775808 invoice party=-9223372036854775808 amount=9223372036854775807 count=-1"},
		{api.Command{Seq: 2, Kind: 1, Reserves: list(-5), Atoms: atoms(-1, -1)[:1:1]}, "#2 deposit reserves=-5 atoms={" + itemsOf(math.MaxUint64) + "}:-1"},
		{api.Command{Seq: 2, Kind: 5, Reserves: list(0, 0, 0), Atoms: atoms(0, 0, 6, 1)}, "#2 submit reserves=0,0,0 atoms={}:0,{1,2}:1"},
		{api.Command{Seq: 2, Kind: 5, Reserves: []int64{}, Atoms: []api.Atom{}}, "#2 submit"},
	} {
		if got := command.Tell(r.c); got != r.want || got != tellOf(r.c) {
			t.Errorf("%+v: %q, not %q", r.c, got, r.want)
		}
	}
}

// P24.3: the longest command of each kind for which room is set aside.
func TestFixedFit(t *testing.T) {
	longest := 0
	for kind := 1; kind <= 11; kind++ {
		if !command.Fixed(kind) {
			continue
		}
		for _, party := range []int{0, 1000} {
			for _, amount := range list(0, big) {
				for _, count := range []int{0, 1 << 40} {
					b, e := command.Write(api.Command{Seq: big, Kind: kind, Party: party, Amount: amount, Count: count})
					if e == api.OK {
						longest = max(longest, len(b))
					}
				}
			}
		}
	}
	if longest == 0 || longest > 40 {
		t.Errorf("the longest one has %d bytes", longest)
	}
}

// P24.4: arguments stay, the memory behind a list's length too, and may be written over behind the call.
func TestArguments(t *testing.T) {
	reserves, as := list(1, 2, 9, 9), atoms(1, 2, 3, 4, 9, 9)
	create := api.Command{Seq: 1, Kind: api.CmdCreate, Reserves: reserves[:2]}
	submit := api.Command{Seq: 2, Kind: api.CmdSubmit, Atoms: as[:2]}
	b, _ := command.Write(create)
	c, _ := command.Write(submit)
	for _, x := range []api.Command{create, submit} {
		command.Right(x)
		command.Tell(x)
		command.Same(x, create)
		command.Same(submit, x)
	}
	if !slices.Equal(reserves, list(1, 2, 9, 9)) || !slices.Equal(as, atoms(1, 2, 3, 4, 9, 9)) {
		t.Errorf("what was handed in is %v, %v", reserves, as)
	}
	clear(reserves)
	clear(as)
	if string(b) != "\x01\x03\x00\x00\x00\x02\x01\x02\x00" || string(c) != "\x02\x05\x00\x00\x00\x00\x02\x01\x02\x03\x04" {
		t.Errorf("what was written is %x, %x", b, c)
	}
	room := append(slices.Clone(c), 9, 9)
	got, _ := command.Read(room[:len(c)])
	if !slices.Equal(room, append(slices.Clone(c), 9, 9)) {
		t.Errorf("what was read is %x", room)
	}
	clear(room)
	if !slices.Equal(got.Atoms, atoms(1, 2, 3, 4)) {
		t.Errorf("behind what is written over the atoms are %v", got.Atoms)
	}
}

// P24.4: answers are new memory, spare room too.
func TestAnswers(t *testing.T) {
	c := api.Command{Seq: 1, Kind: api.CmdSubmit, Party: 5, Atoms: atoms(1, 2, 3, 4)}
	want := bytesOf(c)
	for range 3 {
		b, _ := command.Write(c)
		if !slices.Equal(b, want) {
			t.Fatalf("%x, not %x", b, want)
		}
		for i := range b[:cap(b)] {
			b[:cap(b)][i] = 255
		}
	}
	for range 3 {
		got, _ := command.Read(want)
		if !command.Same(got, c) {
			t.Fatalf("%+v, not %+v", got, c)
		}
		for i := range got.Atoms[:cap(got.Atoms)] {
			got.Atoms[:cap(got.Atoms)][i] = api.Atom{Set: 77, Value: 77}
		}
	}
	if !slices.Equal(want, bytesOf(c)) {
		t.Errorf("what was read is %x", want)
	}
}

// P24.1: long lists and bytes end.
func TestLong(t *testing.T) {
	soon(t, "long lists", func() {
		reserves, as := make([]int64, 1<<20), make([]api.Atom, 1<<19)
		c := api.Command{Seq: 1, Kind: api.CmdCreate, Reserves: reserves, Atoms: as}
		if command.Right(c) || !command.Same(c, c) {
			t.Error("Right, Same")
		}
		if _, e := command.Write(c); e != api.ErrArg {
			t.Errorf("Write: %d", e)
		}
		if n := len(command.Tell(c)); n != len("#1 create reserves=")+2*len(reserves)-1+len(" atoms=")+5*len(as)-1 {
			t.Errorf("Tell: %d bytes", n)
		}
		if _, e := command.Read(make([]byte, 1<<24)); e != api.ErrForm {
			t.Errorf("Read of noughts: %d", e)
		}
		if _, e := command.Read(slices.Repeat([]byte{0x80}, 1<<24)); e != api.ErrShort {
			t.Errorf("Read of a number that doesn't end: %d", e)
		}
	})
}
