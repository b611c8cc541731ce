package keccak

import (
	"bytes"
	"crypto/sha3"
	"math/bits"
	"testing"

	"chicory/api"
)

// some are states of many kinds: nought, all bits, one bit, and what a permutation by the chapter's words makes of them.
func some() []State {
	var full, count State
	for i := range full {
		full[i] = ^uint64(0)
		count[i] = 0x0123456789abcdef * uint64(i+1)
	}
	l := []State{{}, full, count, {0: 1}, {0: 1 << 63}, {24: 1}, {24: 1 << 63}}
	for _, s := range l {
		l = append(l, told(s))
	}
	return l
}

// row is the chapter's row of bits, of which the rounds' constants are made.
func row() []uint64 {
	var l []uint64
	c := byte(1)
	for range 7 * 24 {
		l = append(l, uint64(c&1))
		high := c&128 != 0
		c *= 2
		if high {
			c ^= 113
		}
	}
	return l
}

// toldConstant is a round's constant, by the row.
func toldConstant(r int) uint64 {
	var c uint64
	for j := range 7 {
		c |= row()[7*r+j] << (1<<j - 1)
	}
	return c
}

// toldOffsets are the offsets, by x and y.
func toldOffsets() [5][5]int {
	var l [5][5]int
	x, y := 1, 0
	for t := range 24 {
		l[x][y] = (t + 1) * (t + 2) / 2 % 64
		x, y = y, (2*x+3*y)%5
	}
	return l
}

// grid is a state's lanes by x and y; what is told of it goes by the chapter's words, without the program's tables.
type grid [5][5]uint64

func gridOf(s State) grid {
	var a grid
	for i, lane := range s {
		a[i%5][i/5] = lane
	}
	return a
}

func (a grid) state() State {
	var s State
	for i := range s {
		s[i] = a[i%5][i/5]
	}
	return s
}

func (a grid) spread() grid {
	var sums [5]uint64
	for x, column := range a {
		for _, lane := range column {
			sums[x] ^= lane
		}
	}
	for x := range a {
		for y := range a[x] {
			a[x][y] ^= sums[(x+4)%5] ^ bits.RotateLeft64(sums[(x+1)%5], 1)
		}
	}
	return a
}

func (a grid) turn() grid {
	var b grid
	for x, column := range a {
		for y, lane := range column {
			b[y][(2*x+3*y)%5] = bits.RotateLeft64(lane, toldOffsets()[x][y])
		}
	}
	return b
}

func (a grid) turnBack() grid {
	var b grid
	for x := range b {
		for y := range b[x] {
			b[x][y] = bits.RotateLeft64(a[y][(2*x+3*y)%5], -toldOffsets()[x][y])
		}
	}
	return b
}

func (a grid) bend() grid {
	var b grid
	for x := range b {
		for y := range b[x] {
			b[x][y] = a[x][y] ^ (a[(x+2)%5][y] & ^a[(x+1)%5][y])
		}
	}
	return b
}

// told is what 24 rounds make of a state.
func told(s State) State {
	a := gridOf(s)
	for r := range 24 {
		a = a.spread().turn().bend()
		a[0][0] ^= toldConstant(r)
	}
	return a.state()
}

// undone is the state of which 24 rounds make s. A bend comes round after 4 times, a spread after 192 times.
func undone(s State) State {
	a := gridOf(s)
	for r := range 24 {
		a[0][0] ^= toldConstant(23 - r)
		a = a.bend().bend().bend().turnBack()
		for range 191 {
			a = a.spread()
		}
	}
	return a.state()
}

// P1.1: the tables are those of the chapter's rules.
func TestTables(t *testing.T) {
	for r, c := range constants {
		if want := toldConstant(r); c != want {
			t.Errorf("round %d: %#x, not %#x", r, c, want)
		}
	}
	off := toldOffsets()
	for i, k := range offsets {
		if want := off[i%5][i/5]; k != want {
			t.Errorf("lane %d: %d, not %d", i, k, want)
		}
	}
}

// P1.1: the chapter's example.
func TestPermuteExample(t *testing.T) {
	if s := Permute(State{}); s[0] != 17376452488221285863 {
		t.Error(s[0])
	}
}

// P1.1: all lanes, once and twice, as they are printed with the permutation's own description.
func TestPermuteKnown(t *testing.T) {
	once := State{
		0xF1258F7940E1DDE7, 0x84D5CCF933C0478A, 0xD598261EA65AA9EE, 0xBD1547306F80494D, 0x8B284E056253D057,
		0xFF97A42D7F8E6FD4, 0x90FEE5A0A44647C4, 0x8C5BDA0CD6192E76, 0xAD30A6F71B19059C, 0x30935AB7D08FFC64,
		0xEB5AA93F2317D635, 0xA9A6E6260D712103, 0x81A57C16DBCF555F, 0x43B831CD0347C826, 0x01F22F1A11A5569F,
		0x05E5635A21D9AE61, 0x64BEFEF28CC970F2, 0x613670957BC46611, 0xB87C5A554FD00ECB, 0x8C3EE88A1CCF32C8,
		0x940C7922AE3A2614, 0x1841F924A2C509E4, 0x16F53526E70465C2, 0x75F644E97F30A13B, 0xEAF1FF7B5CECA249,
	}
	twice := State{
		0x2D5C954DF96ECB3C, 0x6A332CD07057B56D, 0x093D8D1270D76B6C, 0x8A20D9B25569D094, 0x4F9C4F99E5E7F156,
		0xF957B9A2DA65FB38, 0x85773DAE1275AF0D, 0xFAF4F247C3D810F7, 0x1F1B9EE6F79A8759, 0xE4FECC0FEE98B425,
		0x68CE61B6B9CE68A1, 0xDEEA66C4BA8F974F, 0x33C43D836EAFB1F5, 0xE00654042719DBD9, 0x7CF8A9F009831265,
		0xFD5449A6BF174743, 0x97DDAD33D8994B40, 0x48EAD5FC5D0BE774, 0xE3B8C8EE55B7B03C, 0x91A0226E649E42E9,
		0x900E3129E7BADD7B, 0x202A9EC5FAA3CCE8, 0x5B3402464E1C3DB6, 0x609F4E62A44C1059, 0x20D06CD26A8FBF5C,
	}
	if s := Permute(State{}); s != once {
		t.Errorf("once: %x", s)
	}
	if s := Permute(once); s != twice {
		t.Errorf("twice: %x", s)
	}
}

// P1.1: the chapter's words, at states of many kinds.
func TestPermuteTold(t *testing.T) {
	for i, s := range some() {
		if got, want := Permute(s), told(s); got != want {
			t.Errorf("state %d: %x, not %x", i, got, want)
		}
	}
}

// P1.1: a sponge of these calls is that of an other's hand.
func TestSponge(t *testing.T) {
	for n := range 136 {
		text := make([]byte, n)
		for i := range text {
			text[i] = byte(7*i + n)
		}
		block := make([]byte, 136)
		copy(block, text)
		block[n] = 31 // as FIPS 202 fills up for SHAKE256
		block[135] ^= 128
		s, e := Xor(State{}, block)
		if e != api.OK {
			t.Fatal(n, int(e))
		}
		if got, want := Bytes(Permute(s))[:136], sha3.SumSHAKE256(text, 136); !bytes.Equal(got, want) {
			t.Errorf("%d bytes: %x, not %x", n, got, want)
		}
	}
}

// P1.1: lanes one behind the other, of each the lowest byte first.
func TestBytes(t *testing.T) {
	var s State
	for i := range s {
		for k := range 8 {
			s[i] |= uint64(8*i+k) << (8 * k)
		}
	}
	b := Bytes(s)
	if len(b) != 200 {
		t.Fatal(len(b))
	}
	for i, c := range b {
		if int(c) != i {
			t.Errorf("byte %d: %d", i, c)
		}
	}
	if b := Bytes(State{24: 1 << 63}); b[199] != 128 || !bytes.Equal(b[:199], make([]byte, 199)) {
		t.Error(b)
	}
}

// R2: what is answered is the caller's.
func TestBytesAreNew(t *testing.T) {
	s := State{1, 2, 3}
	clear(Bytes(s))
	if b := Bytes(s); b[0] != 1 || b[8] != 2 || b[16] != 3 || s != (State{1, 2, 3}) {
		t.Error(b, s)
	}
}

// P1.1: Of takes 200 bytes and no others; with an error nothing but noughts is answered.
func TestOfSizes(t *testing.T) {
	for _, n := range []int{0, 1, 8, 136, 199, 201, 208, 400} {
		if s, e := Of(bytes.Repeat([]byte{255}, n)); s != (State{}) || e != api.ErrSize {
			t.Errorf("%d bytes: %x %d", n, s, int(e))
		}
	}
	if s, e := Of(nil); s != (State{}) || e != api.ErrSize {
		t.Errorf("nil: %x %d", s, int(e))
	}
	var full State
	for i := range full {
		full[i] = ^uint64(0)
	}
	if s, e := Of(bytes.Repeat([]byte{255}, 200)); s != full || e != api.OK {
		t.Errorf("200 bytes: %x %d", s, int(e))
	}
}

// P1.1: each byte of Of stands at its place.
func TestOfPlaces(t *testing.T) {
	for i := range 200 {
		b := make([]byte, 200)
		b[i] = 0xa5
		var want State
		want[i/8] = 0xa5 << (8 * (i % 8))
		if s, e := Of(b); s != want || e != api.OK {
			t.Errorf("byte %d: %x %d", i, s, int(e))
		}
	}
}

// P1.1: Xor takes up to 200 bytes, and leaves those behind them as they are.
func TestXorSizes(t *testing.T) {
	for _, s := range some() {
		for n := range 201 {
			b := make([]byte, n)
			want := Bytes(s)
			for i := range b {
				b[i] = byte(3*i + n + 1)
				want[i] ^= b[i]
			}
			x, e := Xor(s, b)
			if !bytes.Equal(Bytes(x), want) || e != api.OK {
				t.Errorf("%d bytes: %x %d", n, x, int(e))
			}
		}
	}
}

// P1.1: Xor of nothing is the state; of more than 200 bytes it is ErrSize, and noughts.
func TestXorEdges(t *testing.T) {
	s := State{0: 5, 24: 7}
	for _, b := range [][]byte{nil, {}} {
		if x, e := Xor(s, b); x != s || e != api.OK {
			t.Errorf("none: %x %d", x, int(e))
		}
	}
	for _, n := range []int{201, 202, 400, 65536} {
		if x, e := Xor(s, make([]byte, n)); x != (State{}) || e != api.ErrSize {
			t.Errorf("%d bytes: %x %d", n, x, int(e))
		}
	}
}

// R2: bytes that are handed in, and those behind their length, are neither written into nor looked at.
func TestBytesAreKept(t *testing.T) {
	for _, n := range []int{0, 199, 200, 201} {
		whole := bytes.Repeat([]byte{9}, 300)
		x, e := Xor(State{}, whole[:n])
		y, f := Xor(State{}, bytes.Repeat([]byte{9}, n))
		Of(whole[:n])
		if x != y || e != f || !bytes.Equal(whole, bytes.Repeat([]byte{9}, 300)) {
			t.Error(n, x, y, int(e), int(f))
		}
	}
}

// P1.2: Permute of states that are not the same is not the same: each by one bit from others, and what is made of them.
func TestPermuteApart(t *testing.T) {
	from := map[State]State{}
	add := func(s State) {
		p := Permute(s)
		if o, ok := from[p]; ok && o != s {
			t.Errorf("%x and %x: both %x", o, s, p)
		}
		from[p] = s
	}
	for _, s := range some() {
		add(s)
		for i := range 1600 {
			x := s
			x[i/64] ^= 1 << (i % 64)
			add(x)
		}
	}
}

// P1.2: a state is found again from its Permute, so that no two go together.
func TestPermuteUndone(t *testing.T) {
	for i, s := range some() {
		if got := undone(Permute(s)); got != s {
			t.Errorf("state %d: %x, not %x", i, got, s)
		}
		if got := Permute(undone(s)); got != s {
			t.Errorf("state %d, from behind: %x", i, got)
		}
	}
}

// P1.2: Of of Bytes is the state, Bytes of Of the bytes.
func TestThereAndBack(t *testing.T) {
	for i, s := range some() {
		b := Bytes(s)
		x, e := Of(b)
		if x != s || e != api.OK {
			t.Errorf("state %d: %x %d", i, x, int(e))
		}
		if !bytes.Equal(Bytes(x), b) {
			t.Errorf("bytes %d: %x", i, Bytes(x))
		}
	}
}

// P1.2: Xor twice by the same bytes is the state.
func TestXorTwice(t *testing.T) {
	for i, s := range some() {
		for _, n := range []int{0, 1, 7, 8, 9, 136, 199, 200} {
			b := Bytes(told(State{uint64(n)}))[:n]
			x, e := Xor(s, b)
			y, f := Xor(x, b)
			if y != s || e != api.OK || f != api.OK {
				t.Errorf("state %d, %d bytes: %x", i, n, y)
			}
		}
	}
}

// R3: what is answered hangs on the arguments alone, and a state goes by value.
func TestPermuteAgain(t *testing.T) {
	for i, s := range some() {
		kept := s
		first := Permute(s)
		Permute(first)
		if s != kept || Permute(s) != first {
			t.Errorf("state %d", i)
		}
	}
}

func BenchmarkPermute(b *testing.B) {
	var s State
	for range b.N {
		s = Permute(s)
	}
}
