package digits

import (
	"bytes"
	"math"
	"math/big"
	"slices"
	"testing"

	"chicory/api"
)

// kind is one of the calls, with what it is to answer, by an other's hand, and the least number that bytes are cut by.
type kind struct {
	name  string
	call  func(b []byte, n int) ([]int, api.Errno)
	want  func(x *big.Int, size, n int) []int
	least int
}

// kinds are all calls.
func kinds() []kind {
	return []kind{{"Plain", Plain, plain, 1}, {"Signed", Signed, signed, 2}, {"Naf", Naf, naf, 2}, {"Columns", Columns, columns, 1}}
}

// value is the number of bytes, the lowest one first.
func value(b []byte) *big.Int {
	b = slices.Clone(b)
	slices.Reverse(b)
	return new(big.Int).SetBytes(b)
}

// parts8 is how many bits so many bytes have through n, rounded up.
func parts8(size, n int) int { return int(math.Ceil(float64(8*size) / float64(n))) }

// low is what x leaves, divided by 2^n.
func low(x *big.Int, n int) int {
	return int(new(big.Int).Mod(x, new(big.Int).Lsh(big.NewInt(1), uint(n))).Int64())
}

// middle is as low, but from -2^(n-1) to 2^(n-1) - 1.
func middle(x *big.Int, n int) int {
	half := big.NewInt(1 << (n - 1))
	return low(new(big.Int).Add(x, half), n) - 1<<(n-1)
}

// down is x less d, divided by 2^n.
func down(x *big.Int, d, n int) *big.Int {
	x = new(big.Int).Sub(x, big.NewInt(int64(d)))
	return x.Rsh(x, uint(n))
}

// plain is what Plain is to answer of a number of size bytes, by divisions.
func plain(x *big.Int, size, bits int) (out []int) {
	for range parts8(size, bits) {
		d := low(x, bits)
		out, x = append(out, d), down(x, d, bits)
	}
	return out
}

// signed is what Signed is to answer, by divisions.
func signed(x *big.Int, size, bits int) (out []int) {
	for range parts8(size, bits) {
		d := middle(x, bits)
		out, x = append(out, d), down(x, d, bits)
	}
	return append(out, int(x.Int64()))
}

// naf is what Naf is to answer, by halves.
func naf(x *big.Int, size, bits int) (out []int) {
	for range 8*size + 1 {
		d := 0
		if x.Bit(0) == 1 {
			d = middle(x, bits)
		}
		out, x = append(out, d), down(x, d, 1)
	}
	return out
}

// columns is what Columns is to answer, row by row.
func columns(x *big.Int, size, teeth int) []int {
	n := parts8(size, teeth)
	out := make([]int, n)
	for k := range teeth * n {
		out[k%n] += int(x.Bit(k)) << (k / n)
	}
	return out
}

// told is the number that digits tell, each worth 2^bits times the one ahead.
func told(l []int, bits int) *big.Int {
	out := new(big.Int)
	for _, d := range slices.Backward(l) {
		out.Lsh(out, uint(bits)).Add(out, big.NewInt(int64(d)))
	}
	return out
}

// toldByColumns is the number that columns tell.
func toldByColumns(l []int, teeth int) *big.Int {
	out := new(big.Int)
	for i, c := range l {
		for j := range teeth {
			if c>>j&1 == 1 {
				out.Add(out, new(big.Int).Lsh(big.NewInt(1), uint(i+j*len(l))))
			}
		}
	}
	return out
}

// some is n bytes that are not much like each other.
func some(n int, seed uint64) []byte {
	b := make([]byte, n)
	for i := range b {
		seed = seed*6364136223846793005 + 1442695040888963407
		b[i] = byte(seed >> 56)
	}
	return b
}

// highest is n bytes of which the highest bit alone is 1.
func highest(n int) []byte {
	b := make([]byte, n)
	b[n-1] = 128
	return b
}

// texts are bytes of all sizes that may be, of all kinds.
func texts() [][]byte {
	l := [][]byte{nil, {}}
	for n := 1; n <= 64; n++ {
		but := bytes.Repeat([]byte{255}, n)
		but[n-1] = 127
		one := make([]byte, n)
		one[0] = 1
		l = append(l, make([]byte, n), bytes.Repeat([]byte{255}, n), highest(n), but, one,
			bytes.Repeat([]byte{0x55}, n), bytes.Repeat([]byte{0xaa}, n), bytes.Repeat([]byte{0x80}, n), bytes.Repeat([]byte{0x7f}, n))
		for seed := range uint64(3) {
			l = append(l, some(n, seed))
		}
	}
	return l
}

// wild are numbers that bytes may not be cut by, whatever the call.
func wild() []int {
	return []int{math.MinInt, math.MinInt + 1, math.MinInt32, -65536, -64, -8, -2, -1, 0, 9, 10, 16, 63, 64, 65, 512, math.MaxInt32, math.MaxInt - 8, math.MaxInt - 1, math.MaxInt}
}

// right holds an answer against what it is to be.
func right(t *testing.T, k kind, b []byte, n int) []int {
	t.Helper()
	l, e := k.call(b, n)
	if e != api.OK || !slices.Equal(l, k.want(value(b), len(b), n)) {
		t.Fatalf("%s of %x by %d: %d, error %d, not %d", k.name, b, n, l, int(e), k.want(value(b), len(b), n))
	}
	return l
}

// badly holds an answer that is to be an error, and nothing beside it.
func badly(t *testing.T, k kind, b []byte, n int, want api.Errno) {
	t.Helper()
	if l, e := k.call(b, n); l != nil || e != want {
		t.Errorf("%s of %d bytes by %d: %d, error %d, not error %d", k.name, len(b), n, l, int(e), int(want))
	}
}

// P7.1, P7.2, P7.3: the chapter's examples.
func TestExamples(t *testing.T) {
	k := kinds()
	for _, c := range []struct {
		k    kind
		n    int
		want []int
	}{
		{k[0], 3, []int{7, 7, 3}}, {k[1], 3, []int{-1, 0, -4, 1}}, {k[2], 2, []int{-1, 0, 0, 0, 0, 0, 0, 0, 1}}, {k[3], 4, []int{15, 15}},
	} {
		if l, e := c.k.call([]byte{255}, c.n); e != api.OK || !slices.Equal(l, c.want) {
			t.Errorf("%s by %d: %d, error %d, not %d", c.k.name, c.n, l, int(e), c.want)
		}
	}
}

// P7.1, P7.2, P7.3: some answers, told one by one.
func TestTold(t *testing.T) {
	k := kinds()
	for _, c := range []struct {
		k    kind
		b    []byte
		n    int
		want []int
	}{
		{k[0], []byte{0xa5}, 1, []int{1, 0, 1, 0, 0, 1, 0, 1}}, {k[0], []byte{0x21, 0x43}, 4, []int{1, 2, 3, 4}}, {k[0], []byte{1, 2, 255}, 8, []int{1, 2, 255}},
		{k[0], []byte{0, 0x80}, 5, []int{0, 0, 0, 1}}, {k[0], []byte{0x80}, 7, []int{0, 1}}, {k[0], []byte{255, 255}, 7, []int{127, 127, 3}},
		{k[1], []byte{2}, 2, []int{-2, 1, 0, 0, 0}}, {k[1], []byte{1}, 2, []int{1, 0, 0, 0, 0}}, {k[1], []byte{0x7e, 0x80}, 8, []int{126, -128, 1}},
		{k[1], []byte{0x80, 0x7f}, 8, []int{-128, -128, 1}}, {k[1], []byte{0x7f, 0x7f}, 8, []int{127, 127, 0}}, {k[1], []byte{0x80, 0xff, 0xff}, 8, []int{-128, 0, 0, 1}},
		{k[1], []byte{255}, 2, []int{-1, 0, 0, 0, 1}}, {k[1], []byte{255}, 7, []int{-1, 2, 0}}, {k[1], []byte{0xc0}, 7, []int{-64, 2, 0}}, {k[1], []byte{0xaa}, 2, []int{-2, -1, -1, -1, 1}},
		{k[2], []byte{0}, 2, []int{0, 0, 0, 0, 0, 0, 0, 0, 0}}, {k[2], []byte{3}, 2, []int{-1, 0, 1, 0, 0, 0, 0, 0, 0}}, {k[2], []byte{3}, 3, []int{3, 0, 0, 0, 0, 0, 0, 0, 0}},
		{k[2], []byte{5}, 3, []int{-3, 0, 0, 1, 0, 0, 0, 0, 0}}, {k[2], []byte{255}, 8, []int{-1, 0, 0, 0, 0, 0, 0, 0, 1}}, {k[2], []byte{127}, 8, []int{127, 0, 0, 0, 0, 0, 0, 0, 0}},
		{k[2], []byte{129}, 8, []int{-127, 0, 0, 0, 0, 0, 0, 0, 1}}, {k[2], []byte{128}, 2, []int{0, 0, 0, 0, 0, 0, 0, 1, 0}}, {k[2], []byte{192}, 2, []int{0, 0, 0, 0, 0, 0, -1, 0, 1}},
		{k[3], []byte{0xb1}, 8, []int{0xb1}}, {k[3], []byte{0xb1}, 1, []int{1, 0, 0, 0, 1, 1, 0, 1}}, {k[3], []byte{0x0f, 0x33}, 8, []int{0x53, 0x53}},
		{k[3], []byte{0x80}, 7, []int{0, 8}}, {k[3], []byte{0xc1}, 5, []int{9, 8}}, {k[3], []byte{255}, 5, []int{15, 15}}, {k[3], []byte{0x80}, 3, []int{0, 4, 0}},
	} {
		if l, e := c.k.call(c.b, c.n); e != api.OK || !slices.Equal(l, c.want) {
			t.Errorf("%s of %x by %d: %d, error %d, not %d", c.k.name, c.b, c.n, l, int(e), c.want)
		}
	}
}

// P7.1, P7.2, P7.3: of bytes of all sizes, cut by all numbers.
func TestAll(t *testing.T) {
	for _, k := range kinds() {
		for _, b := range texts() {
			for n := k.least; n <= 8; n++ {
				right(t, k, b, n)
			}
		}
	}
}

// P7.1, P7.2, P7.3: of all of two bytes and less, and of these far up.
func TestShort(t *testing.T) {
	for _, k := range kinds() {
		for n := k.least; n <= 8; n++ {
			for x := range 1 << 16 {
				b := []byte{byte(x), byte(x >> 8)}
				right(t, k, b, n)
				if x < 1<<8 {
					right(t, k, b[:1], n)
					right(t, k, append(make([]byte, 63), b[0]), n)
				}
			}
		}
	}
}

// P7.1, P7.2, P7.3: of each bit alone, of all but one, and of all up to it, of sizes that scalars have, and of the greatest one.
func TestBits(t *testing.T) {
	for _, size := range []int{56, 57, 63, 64} {
		all := value(bytes.Repeat([]byte{255}, size))
		for i := range 8 * size {
			one := new(big.Int).Lsh(big.NewInt(1), uint(i))
			for _, x := range []*big.Int{one, new(big.Int).Sub(all, one), new(big.Int).Sub(one, big.NewInt(1))} {
				b := x.FillBytes(make([]byte, size))
				slices.Reverse(b)
				for _, k := range kinds() {
					right(t, k, b, k.least+i%(9-k.least))
				}
			}
		}
	}
}

// P7.1, P7.2, P7.3: how many digits there are, be the number what it may.
func TestHowMany(t *testing.T) {
	for _, c := range []struct {
		size, n                     int
		plain, signed, naf, columns int
	}{
		{0, 1, 0, -1, -1, 0}, {0, 2, 0, 1, 1, 0}, {0, 8, 0, 1, 1, 0}, {1, 1, 8, -1, -1, 8}, {1, 2, 4, 5, 9, 4}, {1, 3, 3, 4, 9, 3}, {1, 4, 2, 3, 9, 2},
		{1, 5, 2, 3, 9, 2}, {1, 7, 2, 3, 9, 2}, {1, 8, 1, 2, 9, 1}, {56, 1, 448, -1, -1, 448}, {56, 3, 150, 151, 449, 150}, {56, 4, 112, 113, 449, 112},
		{56, 5, 90, 91, 449, 90}, {56, 7, 64, 65, 449, 64}, {56, 8, 56, 57, 449, 56}, {57, 2, 228, 229, 457, 228}, {57, 3, 152, 153, 457, 152},
		{57, 4, 114, 115, 457, 114}, {57, 5, 92, 93, 457, 92}, {57, 6, 76, 77, 457, 76}, {57, 7, 66, 67, 457, 66}, {57, 8, 57, 58, 457, 57},
		{63, 5, 101, 102, 505, 101}, {63, 7, 72, 73, 505, 72}, {63, 8, 63, 64, 505, 63}, {64, 1, 512, -1, -1, 512}, {64, 2, 256, 257, 513, 256},
		{64, 3, 171, 172, 513, 171}, {64, 5, 103, 104, 513, 103}, {64, 6, 86, 87, 513, 86}, {64, 7, 74, 75, 513, 74}, {64, 8, 64, 65, 513, 64},
	} {
		for _, b := range [][]byte{make([]byte, c.size), bytes.Repeat([]byte{255}, c.size), some(c.size, 5)} {
			for i, want := range []int{c.plain, c.signed, c.naf, c.columns} {
				k := kinds()[i]
				if want < 0 {
					badly(t, k, b, c.n, api.ErrRange)
					continue
				}
				if l, e := k.call(b, c.n); len(l) != want || e != api.OK {
					t.Errorf("%s of %d bytes by %d: %d digits, error %d, not %d", k.name, c.size, c.n, len(l), int(e), want)
				}
			}
		}
	}
}

// P7.1, P7.2, P7.3: of no bytes, nil or not.
func TestNothing(t *testing.T) {
	for _, b := range [][]byte{nil, {}, make([]byte, 0, 9), {255, 255}} {
		b = b[:0]
		for n := 1; n <= 8; n++ {
			for _, k := range kinds() {
				l, e := k.call(b, n)
				if n < k.least {
					badly(t, k, b, n, api.ErrRange)
				} else if alone := k.least == 2; e != api.OK || alone && !slices.Equal(l, []int{0}) || !alone && len(l) != 0 {
					t.Errorf("%s by %d: %d, error %d", k.name, n, l, int(e))
				}
			}
		}
	}
}

// P7.1, P7.3: more than 64 bytes, which is named ahead of what they are cut by.
func TestSize(t *testing.T) {
	for _, size := range []int{65, 66, 72, 128, 1000, 65536, 1 << 20} {
		for _, b := range [][]byte{make([]byte, size), bytes.Repeat([]byte{255}, size), highest(size)} {
			for _, k := range kinds() {
				for n := -1; n <= 9; n++ {
					badly(t, k, b, n, api.ErrSize)
				}
				for _, n := range wild() {
					badly(t, k, b, n, api.ErrSize)
				}
			}
		}
	}
}

// P7.1, P7.2, P7.3: from -1 to 9, and the least and the greatest int.
func TestRange(t *testing.T) {
	for _, size := range []int{0, 1, 2, 56, 57, 63, 64} {
		for _, b := range [][]byte{make([]byte, size), bytes.Repeat([]byte{255}, size), some(size, 7)} {
			for _, k := range kinds() {
				for n := -1; n <= 9; n++ {
					if n < k.least || n > 8 {
						badly(t, k, b, n, api.ErrRange)
					} else {
						right(t, k, b, n)
					}
				}
				for _, n := range wild() {
					badly(t, k, b, n, api.ErrRange)
				}
			}
		}
	}
	for _, k := range kinds() {
		badly(t, k, nil, 0, api.ErrRange)
		badly(t, k, nil, 9, api.ErrRange)
	}
	badly(t, kinds()[1], []byte{1}, 1, api.ErrRange)
	badly(t, kinds()[2], []byte{1}, 1, api.ErrRange)
}

// within holds digits against the least and the greatest one that may be, and tells both that there are.
func within(t *testing.T, what string, l []int, least, greatest int) (low, high int) {
	t.Helper()
	for _, d := range l {
		if d < least || d > greatest {
			t.Errorf("%s: %d is not from %d to %d", what, d, least, greatest)
		}
		low, high = min(low, d), max(high, d)
	}
	return low, high
}

// P7.1: digits of Plain are from 0 to 2^bits - 1, both there.
func TestPlainBounds(t *testing.T) {
	for bits := 1; bits <= 8; bits++ {
		top := 0
		for _, b := range texts() {
			l, _ := Plain(b, bits)
			_, h := within(t, "Plain", l, 0, 1<<bits-1)
			top = max(top, h)
		}
		if top != 1<<bits-1 {
			t.Errorf("by %d: %d at most", bits, top)
		}
	}
}

// P7.1: digits of Signed are from -2^(bits-1) to 2^(bits-1) - 1, both there, the last one 0 or 1, both there.
func TestSignedBounds(t *testing.T) {
	for bits := 2; bits <= 8; bits++ {
		half := 1 << (bits - 1)
		bottom, top := 0, 0
		var last [2]int
		for _, b := range texts() {
			l, _ := Signed(b, bits)
			end := len(l) - 1
			low, high := within(t, "Signed", l[:end], -half, half-1)
			bottom, top = min(bottom, low), max(top, high)
			within(t, "the last one", l[end:], 0, 1)
			last[l[end]]++
		}
		if bottom != -half || top != half-1 {
			t.Errorf("by %d: from %d to %d", bits, bottom, top)
		}
		if last[0] == 0 || last[1] == 0 {
			t.Errorf("by %d: last ones %d", bits, last)
		}
	}
}

// P7.1: Signed's last digit is 0 up to the middle of what its digits tell without it, and from there on 1.
func TestSignedLast(t *testing.T) {
	for _, size := range []int{1, 2, 7, 56, 57, 63, 64} {
		for bits := 2; bits <= 8; bits++ {
			n := parts8(size, bits)
			edge := told(slices.Repeat([]int{1<<(bits-1) - 1}, n), bits) // the greatest number without a last one
			for by := int64(-1); by <= 2; by++ {
				x := new(big.Int).Add(edge, big.NewInt(by))
				if x.BitLen() > 8*size {
					continue
				}
				b := x.FillBytes(make([]byte, size))
				slices.Reverse(b)
				want := 0
				if by > 0 {
					want = 1
				}
				if l, e := Signed(b, bits); e != api.OK || l[n] != want {
					t.Errorf("of %x by %d: %d, error %d", b, bits, l, int(e))
				}
			}
		}
	}
}

// P7.2: digits of Naf are 0, or odd, and from -2^(bits-1) to 2^(bits-1), both of the odd ones at the ends there; of any bits digits one at most is not 0.
func TestNafBounds(t *testing.T) {
	for bits := 2; bits <= 8; bits++ {
		end := 1<<(bits-1) - 1
		bottom, top := 0, 0
		for _, b := range append(texts(), []byte{byte(end)}, []byte{byte(end + 2)}) {
			l, _ := Naf(b, bits)
			low, high := within(t, "Naf", l, -1<<(bits-1), 1<<(bits-1))
			bottom, top = min(bottom, low), max(top, high)
			last := -bits
			for i, d := range l {
				if d == 0 {
					continue
				}
				if d&1 == 0 || i-last < bits {
					t.Errorf("of %x by %d: %d", b, bits, l)
				}
				last = i
			}
		}
		if bottom != -end || top != end {
			t.Errorf("by %d: from %d to %d", bits, bottom, top)
		}
	}
}

// P7.2: the two ends of Naf's digits, at every place at which they can stand.
func TestNafEnds(t *testing.T) {
	for bits := 2; bits <= 8; bits++ {
		for _, d := range []int{1<<(bits-1) - 1, 1 - 1<<(bits-1)} {
			for i := range 513 - bits {
				want := make([]int, 513)
				want[i] = d
				if d < 0 {
					want[i+bits] = 1
				}
				b := told(want, 1).FillBytes(make([]byte, 65)) // 2^512 and more are not told, so that the first one is 0
				slices.Reverse(b)
				if l, e := Naf(b[:64], bits); b[64] != 0 || e != api.OK || !slices.Equal(l, want) {
					t.Errorf("of %x by %d: %d, error %d, not %d", b, bits, l, int(e), want)
				}
			}
		}
	}
}

// P7.3: Columns of one tooth are the bits, of eight and one byte the byte.
func TestColumnsTeeth(t *testing.T) {
	for _, b := range texts() {
		l, e := Columns(b, 1)
		m, f := Plain(b, 1)
		if len(l) != 8*len(b) || !slices.Equal(l, m) || e != api.OK || f != api.OK {
			t.Errorf("of %x: %d and %d, errors %d and %d", b, l, m, int(e), int(f))
		}
		for i, c := range l {
			if c != int(b[i/8]>>(i%8)&1) {
				t.Errorf("of %x: %d", b, l)
			}
		}
		l, e = Columns(b, 8)
		if len(l) != len(b) || e != api.OK {
			t.Errorf("of %x: %d, error %d", b, l, int(e))
		}
	}
	for c := range 256 {
		if l, e := Columns([]byte{byte(c)}, 8); e != api.OK || !slices.Equal(l, []int{c}) {
			t.Errorf("of %d: %d, error %d", c, l, int(e))
		}
	}
}

// P7.3: columns of the last row's end, which is no bit of the number, are noughts there.
func TestColumnsEnd(t *testing.T) {
	for size := 1; size <= 64; size++ {
		for teeth := 1; teeth <= 8; teeth++ {
			l, _ := Columns(bytes.Repeat([]byte{255}, size), teeth)
			ones := 0
			for _, c := range l {
				if c < 0 || c >= 1<<teeth {
					t.Errorf("of %d bytes by %d: %d", size, teeth, l)
				}
				for j := range teeth {
					ones += c >> j & 1
				}
			}
			if ones != 8*size {
				t.Errorf("of %d bytes by %d: %d ones", size, teeth, ones)
			}
		}
	}
}

// P7.4: digits of each kind, put together again, are the number.
func TestTellAgain(t *testing.T) {
	again := func(what string, b []byte, n int, x *big.Int) {
		t.Helper()
		if x.Cmp(value(b)) != 0 {
			t.Errorf("%s of %x by %d: %x", what, b, n, x)
		}
	}
	for _, b := range texts() {
		for n := 1; n <= 8; n++ {
			l, _ := Plain(b, n)
			again("Plain", b, n, told(l, n))
			l, _ = Columns(b, n)
			again("Columns", b, n, toldByColumns(l, n))
			if n == 1 {
				continue
			}
			l, _ = Signed(b, n)
			again("Signed", b, n, told(l, n))
			l, _ = Naf(b, n)
			again("Naf", b, n, told(l, 1))
		}
	}
}

// P7.4: noughts behind the bytes are noughts behind the digits; Columns' rows alone are longer.
func TestNoughtsBehind(t *testing.T) {
	for _, b := range texts() {
		long := append(slices.Clone(b), make([]byte, 64-len(b))...)
		for _, k := range kinds()[:3] {
			for n := k.least; n <= 8; n++ {
				l, _ := k.call(b, n)
				m, _ := k.call(long, n)
				if len(m) < len(l) || !slices.Equal(slices.Concat(l, make([]int, len(m)-len(l))), m) {
					t.Errorf("%s of %x by %d: %d and %d", k.name, b, n, l, m)
				}
			}
		}
	}
}

// R2: bytes that are handed in stay as they are, and so does what stands behind them, which is not read.
func TestHandedInIsKept(t *testing.T) {
	for _, n := range []int{0, 1, 2, 7, 8, 56, 57, 63, 64, 65, 100} {
		for _, behind := range []byte{0, 77, 255} {
			whole := append(some(n, 9), bytes.Repeat([]byte{behind}, 100)...)
			want := slices.Clone(whole)
			for _, k := range kinds() {
				for by := -1; by <= 9; by++ {
					l, e := k.call(whole[:n], by)
					m, f := k.call(slices.Clone(want[:n:n]), by)
					if !slices.Equal(l, m) || e != f {
						t.Errorf("%s of %d bytes by %d hangs on what stands behind them: %d and %d", k.name, n, by, l, m)
					}
					clear(l[:cap(l)])
					if !bytes.Equal(whole, want) {
						t.Fatalf("%s of %d bytes by %d: written into", k.name, n, by)
					}
				}
			}
		}
	}
}

// R2: what is answered is the caller's: an other answer, and one of later, do not hang on it, nor on the bytes any more.
func TestAnsweredIsNew(t *testing.T) {
	for _, n := range []int{0, 1, 8, 56, 57, 63, 64} {
		for _, k := range kinds() {
			for by := k.least; by <= 8; by++ {
				b := some(n, 11)
				want := k.want(value(b), n, by)
				l, _ := k.call(b, by)
				m, _ := k.call(b, by)
				for i := range m[:cap(m)] {
					m[:cap(m)][i] = 99
				}
				o := right(t, k, b, by)
				for i := range b {
					b[i] ^= 255
				}
				if !slices.Equal(l, want) || !slices.Equal(o, want) {
					t.Errorf("%s of %d bytes by %d: %d and %d, not %d", k.name, n, by, l, o, want)
				}
			}
		}
	}
}

// R3: what a call answers hangs on its arguments alone, whatever was asked ahead.
func TestOneState(t *testing.T) {
	l := texts()
	for i, b := range l {
		for _, k := range kinds() {
			n := k.least + i%(9-k.least)
			first := right(t, k, b, n)
			for _, other := range kinds() {
				other.call(l[(7*i+3)%len(l)], 2+i%7)
				other.call(b, 9)
				other.call(make([]byte, 65), n)
			}
			if !slices.Equal(first, right(t, k, b, n)) {
				t.Errorf("%s of %x by %d: not the same again", k.name, b, n)
			}
		}
	}
}

// All calls, of any bytes, against an other's hand.
func FuzzCalls(f *testing.F) {
	f.Add([]byte{255}, 3)
	f.Add([]byte{}, 2)
	f.Add(bytes.Repeat([]byte{255}, 64), 8)
	f.Add(highest(57), 5)
	f.Add(make([]byte, 65), math.MinInt)
	f.Add(some(56, 1), math.MaxInt)
	f.Fuzz(func(t *testing.T, b []byte, n int) {
		for _, k := range kinds() {
			for _, by := range []int{n, n & 15} {
				switch {
				case len(b) > 64:
					badly(t, k, b, by, api.ErrSize)
				case by < k.least || by > 8:
					badly(t, k, b, by, api.ErrRange)
				default:
					right(t, k, b, by)
				}
			}
		}
	})
}

func BenchmarkSigned(b *testing.B) {
	x := some(57, 1)
	for range b.N {
		Signed(x, 4)
	}
}

func BenchmarkNaf(b *testing.B) {
	x := some(57, 1)
	for range b.N {
		Naf(x, 5)
	}
}

func BenchmarkColumns(b *testing.B) {
	x := some(57, 1)
	for range b.N {
		Columns(x, 7)
	}
}
