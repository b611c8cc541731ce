package scalar

import (
	"bytes"
	"math"
	"math/big"
	"slices"
	"testing"

	"chicory/api"
)

// modulus is L by an other's hand, as the chapter tells it.
func modulus() *big.Int {
	c, _ := new(big.Int).SetString("8335dc163bb124b65129c96fde933d8d723a70aadc873d6d54a7bb0d", 16)
	return c.Sub(power(446), c)
}

// power is 2^k.
func power(k uint) *big.Int { return new(big.Int).Lsh(big.NewInt(1), k) }

// less is x - n.
func less(x *big.Int, n int64) *big.Int { return new(big.Int).Sub(x, big.NewInt(n)) }

// left is what x leaves, divided by L, x being below 0, too.
func left(x *big.Int) *big.Int { return new(big.Int).Mod(x, modulus()) }

// together, minus and times are sums, what is left, and products, of numbers.
func together(x, y *big.Int) *big.Int { return new(big.Int).Add(x, y) }
func minus(x, y *big.Int) *big.Int    { return new(big.Int).Sub(x, y) }
func times(x, y *big.Int) *big.Int    { return new(big.Int).Mul(x, y) }

// inverse is 1 divided by x, modulo L, of 0 it is 0.
func inverse(x *big.Int) *big.Int {
	if left(x).Sign() == 0 {
		return new(big.Int)
	}
	return new(big.Int).ModInverse(x, modulus())
}

// half is what, twice, is x modulo L.
func half(x *big.Int) *big.Int { return times(x, new(big.Int).Rsh(less(modulus(), -1), 1)) }

// text is a number's bytes, so many, the lowest one first.
func text(x *big.Int, size int) []byte {
	b := x.FillBytes(make([]byte, size))
	slices.Reverse(b)
	return b
}

// value is the number of bytes, the lowest one first.
func value(b []byte) *big.Int {
	b = slices.Clone(b)
	slices.Reverse(b)
	return new(big.Int).SetBytes(b)
}

// some is n bytes that are not much like each other.
func some(n int, seed uint64) []byte {
	b := make([]byte, n)
	for i := range b {
		seed = seed*6364136223846793005 + 1442695040888963407
		b[i] = byte(seed >> 56)
	}
	return b
}

// of is the scalar of a number below 2^1024.
func of(t *testing.T, x *big.Int) Scalar {
	t.Helper()
	a, e := Reduce(text(x, 128))
	if e != api.OK {
		t.Fatal(int(e))
	}
	return a
}

// same holds a scalar against a number that leaves the same, divided by L.
func same(t *testing.T, what string, a Scalar, want *big.Int) {
	t.Helper()
	if b := Bytes(a); !bytes.Equal(b, text(left(want), 57)) {
		t.Errorf("%s: %x, not %x", what, b, text(left(want), 57))
	}
}

// great is a scalar's number, by its bytes.
func great(a Scalar) *big.Int { return value(Bytes(a)) }

// numbers are those below 2^446 at which words, L and halves of it begin and end, and others.
func numbers() []*big.Int {
	l, end := modulus(), power(446)
	out := []*big.Int{
		big.NewInt(39081), power(445), less(power(445), 1), less(power(445), -1), less(end, 1), less(end, 2), power(224), less(power(224), 1), power(222), power(223),
		new(big.Int).Rsh(l, 1), less(new(big.Int).Rsh(l, 1), -1), less(new(big.Int).Rsh(l, 1), 1), new(big.Int).Rsh(l, 2),
		minus(end, l), less(minus(end, l), 1), less(minus(end, l), -1), minus(l, minus(end, l)),
	}
	for n := range int64(6) {
		out = append(out, big.NewInt(n), less(l, n), less(l, -n))
	}
	for k := uint(64); k < 446; k += 64 {
		out = append(out, less(power(k), 1), power(k), less(power(k), -1), minus(end, power(k)), less(minus(end, power(k)), 1), minus(l, power(k)))
	}
	for k := range uint64(6) {
		x := value(some(56, k))
		out = append(out, x.Rsh(x, 2))
	}
	return out
}

// samples are scalars of all these numbers, and their numbers from 0 to L - 1.
func samples(t *testing.T) (l []Scalar, want []*big.Int) {
	t.Helper()
	l, want = []Scalar{{}}, []*big.Int{new(big.Int)}
	for _, x := range numbers() {
		l, want = append(l, of(t, x)), append(want, left(x))
	}
	return l, want
}

// few are some of the samples, of all kinds.
func few(t *testing.T) []Scalar {
	t.Helper()
	out := []Scalar{{}}
	for _, x := range []*big.Int{big.NewInt(0), big.NewInt(1), big.NewInt(2), less(modulus(), 1), less(modulus(), 2), less(power(446), 1), new(big.Int).Rsh(modulus(), 1), less(new(big.Int).Rsh(modulus(), 1), -1)} {
		out = append(out, of(t, x))
	}
	l, _ := samples(t)
	for i := 1; i < len(l); i += 7 {
		out = append(out, l[i])
	}
	return out
}

// ints are numbers at which words, halves of them, and ints begin and end.
func ints() []int {
	l := []int{0, 1, 2, 3, 5, 9, 10, 15, 39081, 39082, math.MaxInt, math.MaxInt - 1, math.MinInt + 1}
	for k := 7; k < 63; k += 5 {
		l = append(l, 1<<k-1, 1<<k, 1<<k+1)
	}
	l = append(l, 1<<31-1, 1<<31, 1<<32-1, 1<<32, 1<<62-1, 1<<62)
	for _, n := range l {
		l = append(l, -n)
	}
	return append(l, math.MinInt)
}

// P6.1, P6.2: the chapter's examples.
func TestExamples(t *testing.T) {
	want := L()
	want[0]--
	b := Bytes(Int(-1))
	if !bytes.Equal(b, want) || !bytes.Equal(b[:4], []byte{242, 68, 88, 171}) {
		t.Errorf("Bytes of -1: %x", b)
	}
	same(t, "Half of 1", Half(Int(1)), new(big.Int).Rsh(less(modulus(), -1), 1))
}

// P6.1: L, by the chapter's words, and what stands for it.
func TestL(t *testing.T) {
	if !bytes.Equal(L(), text(modulus(), 57)) || len(L()) != 57 {
		t.Errorf("%x", L())
	}
	if !modulus().ProbablyPrime(20) {
		t.Error("no prime number")
	}
	words := func(l []uint64) *big.Int {
		out := new(big.Int)
		for _, x := range slices.Backward(l) {
			out.Lsh(out, 64).Add(out, new(big.Int).SetUint64(x))
		}
		return out
	}
	if words(order[:]).Cmp(modulus()) != 0 || words(rest[:]).Cmp(left(power(446))) != 0 {
		t.Errorf("%x %x", order, rest)
	}
}

// badly is an answer that has to be an error, and nothing beside it.
func badly(t *testing.T, what string, a Scalar, e, want api.Errno) {
	t.Helper()
	if a != (Scalar{}) || e != want {
		t.Errorf("%s: %x, error %d, not error %d", what, Bytes(a), int(e), int(want))
	}
}

// P6.1: Decode of bytes that are not 56 or 57, which goes ahead of their number.
func TestDecodeSize(t *testing.T) {
	for _, n := range []int{0, 1, 2, 7, 8, 28, 54, 55, 58, 59, 64, 112, 113, 114, 128, 129, 1000} {
		for _, b := range [][]byte{make([]byte, n), some(n, 1), bytes.Repeat([]byte{255}, n), slices.Concat(L(), make([]byte, n))[:n]} {
			a, e := Decode(b)
			badly(t, "Decode", a, e, api.ErrSize)
		}
	}
	a, e := Decode(nil)
	badly(t, "Decode of nil", a, e, api.ErrSize)
}

// decodes holds Decode of 56 and of 57 bytes against their number.
func decodes(t *testing.T, x *big.Int) {
	t.Helper()
	for _, n := range []int{56, 57} {
		if x.BitLen() > 8*n {
			continue
		}
		a, e := Decode(text(x, n))
		if x.Cmp(modulus()) >= 0 {
			badly(t, "Decode", a, e, api.ErrScalar)
			continue
		}
		if e != api.OK {
			t.Errorf("Decode of %x: error %d", text(x, n), int(e))
		}
		same(t, "Decode", a, x)
	}
}

// P6.1: Decode: L and more are ErrScalar.
func TestDecode(t *testing.T) {
	l := modulus()
	for _, x := range numbers() {
		decodes(t, x)
		for _, k := range []uint{446, 447, 448, 449, 455} {
			decodes(t, together(x, power(k)))
		}
	}
	for k := range uint(456) { // one bit less, and one more
		decodes(t, power(k))
		decodes(t, less(power(k), 1))
		decodes(t, together(l, power(k)))
		if l.Cmp(power(k)) > 0 {
			decodes(t, minus(l, power(k)))
		}
	}
	for n := range int64(260) {
		decodes(t, times(l, big.NewInt(n)))
		decodes(t, less(times(l, big.NewInt(n+1)), 1))
	}
	for k := range uint64(50) {
		decodes(t, value(some(56, k)))
		decodes(t, value(some(57, k)))
	}
}

// P6.1: the edges of Decode, told one by one.
func TestDecodeEdges(t *testing.T) {
	at := func(i int, c byte) []byte {
		b := L()
		b[i] = c
		return b
	}
	last := func(c byte) []byte { return append(make([]byte, 56), c) }
	for _, c := range []struct {
		b []byte
		e api.Errno
	}{
		{make([]byte, 56), api.OK}, {make([]byte, 57), api.OK}, {at(0, 0xf2), api.OK}, {at(0, 0xf2)[:56], api.OK}, {at(55, 0x3e), api.OK},
		{L(), api.ErrScalar}, {L()[:56], api.ErrScalar}, {at(0, 0xf4), api.ErrScalar}, {at(0, 0xf4)[:56], api.ErrScalar}, {at(28, 0), api.OK},
		{at(55, 0x40), api.ErrScalar}, {at(55, 0x80), api.ErrScalar}, {at(55, 0xc0)[:56], api.ErrScalar},
		{last(1), api.ErrScalar}, {last(0x80), api.ErrScalar}, {last(255), api.ErrScalar}, {at(56, 1), api.ErrScalar},
		{bytes.Repeat([]byte{255}, 56), api.ErrScalar}, {bytes.Repeat([]byte{255}, 57), api.ErrScalar},
		{append(bytes.Repeat([]byte{255}, 55), 0x3f), api.ErrScalar}, {append(bytes.Repeat([]byte{255}, 55), 0x1f, 0), api.OK},
	} {
		a, e := Decode(c.b)
		if e != c.e {
			t.Errorf("Decode of %x: error %d, not error %d", c.b, int(e), int(c.e))
		}
		if c.e == api.OK {
			same(t, "Decode", a, value(c.b))
		} else {
			badly(t, "Decode", a, e, c.e)
		}
	}
}

// P6.1: Reduce of more than 128 bytes, be they noughts.
func TestReduceSize(t *testing.T) {
	for _, n := range []int{129, 130, 136, 137, 144, 256, 1000, 65536} {
		for _, b := range [][]byte{make([]byte, n), some(n, 1), bytes.Repeat([]byte{255}, n), append([]byte{1}, make([]byte, n-1)...)} {
			a, e := Reduce(b)
			badly(t, "Reduce", a, e, api.ErrSize)
		}
	}
}

// reduces holds Reduce of bytes against what an other's hand tells, with noughts behind them, too.
func reduces(t *testing.T, b []byte) {
	t.Helper()
	for _, more := range []int{0, 1, 7, 8, 9, 128 - len(b)} {
		if more < 0 || len(b)+more > 128 {
			continue
		}
		a, e := Reduce(append(slices.Clone(b), make([]byte, more)...))
		if e != api.OK {
			t.Errorf("Reduce of %x: error %d", b, int(e))
		}
		same(t, "Reduce", a, value(b))
	}
}

// P6.1: Reduce, of bytes of all sizes up to 128.
func TestReduce(t *testing.T) {
	reduces(t, nil)
	for n := range 129 {
		reduces(t, make([]byte, n))
		reduces(t, bytes.Repeat([]byte{255}, n))
		for k := range uint64(4) {
			reduces(t, some(n, k))
		}
	}
	for _, x := range numbers() {
		reduces(t, text(x, 56))
		reduces(t, text(x, 57))
	}
}

// P6.1: Reduce of each bit alone, and of all but one, and of all up to it.
func TestReduceBits(t *testing.T) {
	for k := range uint(1024) {
		reduces(t, text(power(k), 128))
		reduces(t, text(minus(less(power(1024), 1), power(k)), 128))
		reduces(t, text(less(power(k), 1), 128))
		reduces(t, text(minus(power(1024), power(k)), 128))
	}
}

// P6.1: Reduce of so many times L, of one less and of one more, up to as many as 128 bytes have.
func TestReduceTimes(t *testing.T) {
	l := modulus()
	often := []*big.Int{new(big.Int).Div(less(power(1024), 2), l)}
	for k := range uint(578) {
		often = append(often, power(k), less(power(k), 1), less(power(k), -1))
	}
	for k := range int64(20) {
		often = append(often, big.NewInt(k), less(often[0], k), value(some(72, uint64(k))))
	}
	for _, n := range often {
		x := times(n, l)
		reduces(t, text(x, 128))
		reduces(t, text(less(x, -1), 128))
		if x.Sign() > 0 {
			reduces(t, text(less(x, 1), 128))
		}
	}
}

// came is a number from which x comes, when what goes beyond 2^446 comes in again once.
func came(x *big.Int) *big.Int {
	beyond, below := new(big.Int).DivMod(x, left(power(446)), new(big.Int))
	return below.Add(below, beyond.Lsh(beyond, 446))
}

// P6.1: Reduce of numbers of which, when what goes beyond came in again, and that again, just about L or 2^446 is there, and what goes beyond as yet.
func TestReduceComesIn(t *testing.T) {
	full := less(power(446), 1)
	for n := range int64(40) {
		for _, high := range []*big.Int{big.NewInt(n + 1), less(power(134), n), less(power(133), -n), value(some(16, uint64(n)))} {
			for _, low := range []*big.Int{less(full, n), less(modulus(), n), less(modulus(), -n)} {
				x := together(new(big.Int).Lsh(high, 446), low)
				for size := 128; x.BitLen() <= 8*size; x = came(x) {
					reduces(t, text(x, size))
				}
			}
		}
	}
}

// P6.1: Int, of the least and the greatest one, too.
func TestInt(t *testing.T) {
	for _, n := range ints() {
		same(t, "Int", Int(n), big.NewInt(int64(n)))
	}
	for n := -1000; n < 1000; n++ {
		same(t, "Int", Int(n), big.NewInt(int64(n)))
	}
	if !Zero(Int(0)) || Zero(Int(1)) || Zero(Int(-1)) || Int(1) == Int(-1) {
		t.Error("0, 1 or -1")
	}
	same(t, "-1", Int(-1), less(modulus(), 1))
	same(t, "the least one", Int(math.MinInt), minus(modulus(), power(63)))
}

// P6.1, P6.4: Bytes are 57, the last one 0; Decode of them, and of the first 56, is the scalar.
func TestBytes(t *testing.T) {
	l, want := samples(t)
	for i, a := range l {
		same(t, "Bytes", a, want[i])
		for _, n := range []int{56, 57} {
			c, e := Decode(Bytes(a)[:n])
			if e != api.OK || !Equal(a, c) {
				t.Errorf("Decode of %x: %x, error %d", Bytes(a)[:n], Bytes(c), int(e))
			}
		}
		c, e := Reduce(Bytes(a))
		if e != api.OK || !Equal(a, c) {
			t.Errorf("Reduce of %x: %x, error %d", Bytes(a), Bytes(c), int(e))
		}
	}
}

// P6.2: Add, Sub and Mul, of all pairs of samples.
func TestPairs(t *testing.T) {
	l, want := samples(t)
	for i, a := range l {
		for j, b := range l {
			x, y := want[i], want[j]
			same(t, "Add", Add(a, b), together(x, y))
			same(t, "Sub", Sub(a, b), minus(x, y))
			same(t, "Mul", Mul(a, b), times(x, y))
		}
	}
}

// P6.2: sums, what is left, and products at 0, 1 and L less 1, told one by one.
func TestPairsEdges(t *testing.T) {
	l := modulus()
	zero, one, last := Int(0), Int(1), of(t, less(l, 1))
	for _, c := range []struct {
		what string
		a    Scalar
		want *big.Int
	}{
		{"0 and 0", Add(zero, zero), big.NewInt(0)}, {"0 and 1", Add(zero, one), big.NewInt(1)}, {"1 and L - 1", Add(one, last), big.NewInt(0)},
		{"L - 1 and L - 1", Add(last, last), less(l, 2)}, {"L - 1 and 0", Add(last, zero), less(l, 1)}, {"L - 2 and 1", Add(of(t, less(l, 2)), one), less(l, 1)},
		{"0 less 0", Sub(zero, zero), big.NewInt(0)}, {"0 less 1", Sub(zero, one), less(l, 1)}, {"0 less L - 1", Sub(zero, last), big.NewInt(1)},
		{"1 less L - 1", Sub(one, last), big.NewInt(2)}, {"L - 1 less L - 1", Sub(last, last), big.NewInt(0)}, {"L - 1 less 0", Sub(last, zero), less(l, 1)},
		{"0 times L - 1", Mul(zero, last), big.NewInt(0)}, {"1 times L - 1", Mul(one, last), less(l, 1)}, {"L - 1 times itself", Mul(last, last), big.NewInt(1)},
		{"L - 1 times 2", Mul(last, Int(2)), less(l, 2)}, {"0 times 0", Mul(zero, zero), big.NewInt(0)}, {"1 times 1", Mul(one, one), big.NewInt(1)},
		{"2^445 and itself", Add(of(t, power(445)), of(t, power(445))), minus(power(446), l)}, {"2^445 times 2", Mul(of(t, power(445)), Int(2)), minus(power(446), l)},
		{"2^223 times itself", Mul(of(t, power(223)), of(t, power(223))), minus(power(446), l)},
		{"-3 times 5", Mul(Int(-3), Int(5)), less(l, 15)}, {"-3 times -5", Mul(Int(-3), Int(-5)), big.NewInt(15)}, {"3 less 5", Sub(Int(3), Int(5)), less(l, 2)},
	} {
		if !bytes.Equal(Bytes(c.a), text(c.want, 57)) {
			t.Errorf("%s: %x, not %x", c.what, Bytes(c.a), text(c.want, 57))
		}
	}
}

// P6.2: Neg, Half, and that a half twice is the scalar.
func TestOne(t *testing.T) {
	l, want := samples(t)
	for i, a := range l {
		same(t, "Neg", Neg(a), new(big.Int).Neg(want[i]))
		same(t, "Neg of Neg", Neg(Neg(a)), want[i])
		same(t, "a and Neg", Add(a, Neg(a)), big.NewInt(0))
		same(t, "Half", Half(a), half(want[i]))
		same(t, "a half, twice", Add(Half(a), Half(a)), want[i])
		same(t, "a half of twice", Half(Add(a, a)), want[i])
	}
}

// P6.2: the edges of Neg, Half and Inverse, told one by one.
func TestOneEdges(t *testing.T) {
	l := modulus()
	up := new(big.Int).Rsh(less(l, -1), 1)
	for _, c := range []struct{ x, neg, half, inverse *big.Int }{
		{big.NewInt(0), big.NewInt(0), big.NewInt(0), big.NewInt(0)},
		{big.NewInt(1), less(l, 1), up, big.NewInt(1)},
		{big.NewInt(2), less(l, 2), big.NewInt(1), up},
		{less(l, 1), big.NewInt(1), less(up, 1), less(l, 1)},
		{less(l, 2), big.NewInt(2), less(l, 1), less(up, 1)},
		{up, less(up, 1), half(up), big.NewInt(2)},
	} {
		a := of(t, c.x)
		same(t, "Neg", Neg(a), c.neg)
		same(t, "Half", Half(a), c.half)
		same(t, "Inverse", Inverse(a), c.inverse)
	}
	if !Zero(Neg(Int(0))) || !Zero(Half(Int(0))) || !Zero(Inverse(Int(0))) {
		t.Error("of 0 it is not 0")
	}
}

// P6.2, P6.4: Inverse, and that a scalar that is not 0 times it is 1.
func TestInverse(t *testing.T) {
	l, want := samples(t)
	for n := range 30 {
		l, want = append(l, Int(n), Int(-n)), append(want, big.NewInt(int64(n)), left(big.NewInt(int64(-n))))
	}
	for i, a := range l {
		b := Inverse(a)
		same(t, "Inverse", b, inverse(want[i]))
		one := big.NewInt(1)
		if want[i].Sign() == 0 {
			one = want[i]
		}
		same(t, "a times its inverse", Mul(a, b), one)
		same(t, "the inverse of the inverse", Inverse(b), want[i])
	}
	for k := uint(0); k < 446; k += 9 {
		same(t, "Inverse", Inverse(of(t, power(k))), inverse(power(k)))
	}
}

// P6.2: Zero and Equal, of all pairs of samples, of which some are the same number.
func TestEqual(t *testing.T) {
	l, want := samples(t)
	for i, a := range l {
		if Zero(a) != (want[i].Sign() == 0) {
			t.Errorf("Zero(%x): %t", Bytes(a), Zero(a))
		}
		for j, b := range l {
			if Equal(a, b) != (want[i].Cmp(want[j]) == 0) {
				t.Errorf("Equal(%x, %x): %t", Bytes(a), Bytes(b), Equal(a, b))
			}
		}
	}
}

// P6.2: Zero and Equal of numbers that were made on other ways, and of such as are not the same by one bit.
func TestEqualMade(t *testing.T) {
	l, want := samples(t)
	for i, a := range l {
		decoded, _ := Decode(Bytes(a))
		ways := []Scalar{
			a, decoded, Sub(Add(a, Int(7)), Int(7)), Add(Sub(a, Int(7)), Int(7)), Neg(Neg(a)), Mul(a, Int(1)), Mul(Mul(a, Int(-1)), Int(-1)), Add(Half(a), Half(a)),
			of(t, together(want[i], modulus())), of(t, together(want[i], times(modulus(), power(577)))), Sub(a, Scalar{}), Mul(Mul(a, Int(3)), Inverse(Int(3))),
		}
		for _, x := range ways {
			for _, y := range ways {
				if !Equal(x, y) || !Zero(Sub(x, y)) || !Zero(Add(x, Neg(y))) || !bytes.Equal(Bytes(x), Bytes(y)) {
					t.Errorf("%x and %x are not the same", Bytes(x), Bytes(y))
				}
			}
		}
		for k := range uint(446) {
			if b := Add(a, of(t, power(k))); Equal(a, b) || Equal(b, a) || Zero(Sub(a, b)) || Zero(of(t, power(k))) {
				t.Errorf("%x, and 2^%d with it, are the same", Bytes(a), k)
			}
		}
	}
	for _, a := range []Scalar{{}, of(t, modulus()), Int(0), Neg(Scalar{}), Mul(Int(5), Int(0)), Add(Int(-3), Int(3)), Sub(Int(-3), Int(-3)), Half(Int(0)), Inverse(Int(0)), of(t, times(modulus(), power(570)))} {
		if !Zero(a) || !Equal(a, Scalar{}) || !Equal(Scalar{}, a) || !bytes.Equal(Bytes(a), make([]byte, 57)) {
			t.Errorf("%x is not 0", Bytes(a))
		}
	}
}

// P6.1, P6.2: the zero value is 0 in each call.
func TestZeroValue(t *testing.T) {
	var o Scalar
	none := new(big.Int)
	if !bytes.Equal(Bytes(o), make([]byte, 57)) || !Zero(o) || !Equal(o, o) || !Equal(o, Int(0)) || Equal(o, Int(1)) {
		t.Error("the zero value is not 0")
	}
	same(t, "0 less 0", Neg(o), none)
	same(t, "half of 0", Half(o), none)
	same(t, "1 divided by 0", Inverse(o), none)
	l, want := samples(t)
	for i, a := range l {
		same(t, "0 and a", Add(o, a), want[i])
		same(t, "a and 0", Add(a, o), want[i])
		same(t, "a less 0", Sub(a, o), want[i])
		same(t, "0 less a", Sub(o, a), new(big.Int).Neg(want[i]))
		same(t, "0 times a", Mul(o, a), none)
		same(t, "a times 0", Mul(a, o), none)
	}
}

// P6.4: sums and products go either way, in any order; a product of a sum is the sum of products.
func TestLaws(t *testing.T) {
	equal := func(what string, a, b Scalar) {
		t.Helper()
		if !Equal(a, b) || !bytes.Equal(Bytes(a), Bytes(b)) {
			t.Errorf("%s: %x and %x", what, Bytes(a), Bytes(b))
		}
	}
	l := few(t)
	for _, a := range l {
		for _, b := range l {
			equal("a sum, the other way", Add(a, b), Add(b, a))
			equal("a product, the other way", Mul(a, b), Mul(b, a))
			equal("a sum, less a part", Sub(Add(a, b), a), b)
			equal("what is left, with what was taken", Add(Sub(a, b), b), a)
			equal("what is left, the other way", Sub(a, b), Neg(Sub(b, a)))
			equal("a product of a half", Mul(Half(a), b), Half(Mul(a, b)))
			for _, c := range l {
				equal("sums in an other order", Add(Add(a, b), c), Add(a, Add(b, c)))
				equal("products in an other order", Mul(Mul(a, b), c), Mul(a, Mul(b, c)))
				equal("a product of a sum", Mul(Add(a, b), c), Add(Mul(a, c), Mul(b, c)))
				equal("a product of what is left", Mul(c, Sub(a, b)), Sub(Mul(c, a), Mul(c, b)))
			}
		}
	}
	for _, a := range l[:8] {
		for _, b := range l[:8] {
			equal("the inverse of a product", Inverse(Mul(a, b)), Mul(Inverse(a), Inverse(b)))
		}
	}
}

// P6.3: Clamp of bytes that are not 56 or 57.
func TestClampSize(t *testing.T) {
	for _, n := range []int{0, 1, 2, 28, 54, 55, 58, 59, 112, 114, 128, 1000} {
		for _, b := range [][]byte{make([]byte, n), some(n, 1), bytes.Repeat([]byte{255}, n)} {
			if c, e := Clamp(b); len(c) != 0 || e != api.ErrSize {
				t.Errorf("Clamp of %d bytes: %x, error %d", n, c, int(e))
			}
		}
	}
	if c, e := Clamp(nil); len(c) != 0 || e != api.ErrSize {
		t.Errorf("Clamp of nil: %x, error %d", c, int(e))
	}
}

// clamped is what Clamp is to answer, by the chapter's words.
func clamped(b []byte) []byte {
	out := slices.Clone(b)
	out[0] = out[0] / 4 * 4
	if out[55] < 128 {
		out[55] += 128
	}
	if len(out) == 57 {
		out[56] = 0
	}
	return out
}

// P6.3, P6.4: Clamp; a clamped number is from 2^447 to 2^448, and so many times 4.
func TestClamp(t *testing.T) {
	for _, n := range []int{56, 57} {
		l := [][]byte{make([]byte, n), bytes.Repeat([]byte{255}, n), L()[:n]}
		for k := range uint64(40) {
			l = append(l, some(n, k))
		}
		for i := range n {
			for k := range 8 {
				one, but := make([]byte, n), bytes.Repeat([]byte{255}, n)
				one[i] = 1 << k
				but[i] ^= 1 << k
				l = append(l, one, but)
			}
		}
		for _, b := range l {
			c, e := Clamp(b)
			if e != api.OK || !bytes.Equal(c, clamped(b)) {
				t.Errorf("Clamp of %x: %x, error %d", b, c, int(e))
			}
			if x := value(c); x.Cmp(power(447)) < 0 || x.Cmp(power(448)) >= 0 || x.Bit(0) != 0 || x.Bit(1) != 0 {
				t.Errorf("Clamp of %x: %x", b, c)
			}
			d, e := Clamp(c)
			if e != api.OK || !bytes.Equal(c, d) {
				t.Errorf("Clamp of %x, again: %x, error %d", b, d, int(e))
			}
		}
	}
}

// P6.3: the edges of Clamp, told one by one.
func TestClampEdges(t *testing.T) {
	for _, n := range []int{56, 57} {
		c, e := Clamp(make([]byte, n))
		want := make([]byte, n)
		want[55] = 128
		if e != api.OK || !bytes.Equal(c, want) {
			t.Errorf("of noughts: %x, error %d", c, int(e))
		}
		c, e = Clamp(bytes.Repeat([]byte{255}, n))
		want = append(append([]byte{252}, bytes.Repeat([]byte{255}, 55)...), make([]byte, n-56)...)
		if e != api.OK || !bytes.Equal(c, want) {
			t.Errorf("of 255: %x, error %d", c, int(e))
		}
	}
}

// call makes a scalar by the call of a number, and what it should be.
func call(t *testing.T, kind byte, n int, a, b Scalar, x, y *big.Int) (Scalar, *big.Int) {
	switch kind % 7 {
	case 0:
		return Add(a, b), together(x, y)
	case 1:
		return Sub(a, b), minus(x, y)
	case 2:
		return Mul(a, b), times(x, y)
	case 3:
		return Neg(a), new(big.Int).Neg(x)
	case 4:
		return Half(a), half(x)
	case 5:
		return Int(n), big.NewInt(int64(n))
	}
	wide := together(times(x, power(500)), times(y, power(77)))
	return of(t, wide), wide
}

// Long rows of calls, each of what was made ahead.
func TestRows(t *testing.T) {
	for seed := range uint64(20) {
		l := few(t)
		var want []*big.Int
		for _, a := range l {
			want = append(want, great(a))
		}
		numbers := ints()
		for wild := some(4*2000, seed); len(wild) > 0; wild = wild[4:] {
			i, j, n := int(wild[1])%len(l), int(wild[2])%len(l), numbers[int(wild[3])%len(numbers)]
			a, x := call(t, wild[0], n, l[i], l[j], want[i], want[j])
			same(t, "made", a, x)
			l[j], want[j] = a, left(x)
			if Equal(l[i], a) != (want[i].Cmp(want[j]) == 0) || Zero(a) != (want[j].Sign() == 0) {
				t.Errorf("%x: Equal or Zero", Bytes(a))
			}
		}
	}
}

// R2: bytes that are handed in stay as they are, and so does what stands behind them, whatever becomes of what is answered.
func TestHandedInIsKept(t *testing.T) {
	for _, n := range []int{0, 1, 8, 55, 56, 57, 58, 64, 127, 128, 129, 136, 200} {
		for seed := range uint64(4) {
			whole := append(some(n, seed), bytes.Repeat([]byte{77}, 300)...)
			if n > 55 {
				whole[55] &= 0x1f // so that it is a scalar
			}
			if n > 56 {
				whole[56] = 0
			}
			want := slices.Clone(whole)
			b := whole[:n]
			a, e := Decode(b)
			r, g := Reduce(b)
			c, _ := Clamp(b)
			clear(c[:cap(c)])
			if !bytes.Equal(whole, want) {
				t.Errorf("%d bytes: written into", n)
			}
			clear(whole)
			if e == api.OK {
				same(t, "Decode", a, value(want[:n]))
			}
			if g == api.OK {
				same(t, "Reduce", r, value(want[:n]))
			}
			if (e == api.OK) != (n == 56 || n == 57) || (g == api.OK) != (n <= 128) {
				t.Errorf("%d bytes: errors %d and %d", n, int(e), int(g))
			}
		}
	}
}

// R2: what Clamp answers does not hang together with what it was handed.
func TestClampIsNew(t *testing.T) {
	for _, n := range []int{56, 57} {
		for _, room := range []int{0, 1, 100} {
			whole := append(some(n, 3), make([]byte, room)...)
			b := whole[:n:n]
			if room > 0 {
				b = whole[:n]
			}
			want := clamped(b)
			c, _ := Clamp(b)
			d, _ := Clamp(b)
			clear(whole)
			clear(d[:cap(d)])
			if !bytes.Equal(c, want) {
				t.Errorf("%x, not %x", c, want)
			}
		}
	}
}

// R2: scalars that are handed in stay as they are.
func TestScalarsAreKept(t *testing.T) {
	for _, a := range few(t) {
		for _, b := range few(t)[:6] {
			x, y := a, b
			Add(a, b)
			Sub(a, b)
			Mul(a, b)
			Neg(a)
			Half(a)
			Inverse(a)
			Equal(a, b)
			Zero(a)
			Bytes(a)
			if a != x || b != y {
				t.Errorf("%x and %x: written into", Bytes(x), Bytes(y))
			}
		}
	}
}

// R2: what is answered is the caller's.
func TestAnsweredIsNew(t *testing.T) {
	l := L()
	clear(l[:cap(l)])
	if !bytes.Equal(L(), text(modulus(), 57)) {
		t.Errorf("L: %x", L())
	}
	same(t, "L", of(t, value(L())), new(big.Int))
	made, want := samples(t)
	for i, a := range made {
		b, c := Bytes(a), Bytes(a)
		clear(b[:cap(b)])
		if !bytes.Equal(c, text(want[i], 57)) {
			t.Errorf("Bytes: %x", c)
		}
		same(t, "Bytes, again", a, want[i])
	}
}

// All calls, of any bytes, against an other's hand.
func FuzzCalls(f *testing.F) {
	f.Add(text(less(modulus(), 1), 57), bytes.Repeat([]byte{255}, 128), -1)
	f.Add(L(), make([]byte, 129), math.MinInt)
	f.Add(make([]byte, 55), []byte{}, 0)
	f.Add(bytes.Repeat([]byte{255}, 56), text(came(less(power(446), 1)), 128), 1)
	f.Fuzz(func(t *testing.T, p, s []byte, n int) {
		a, e := Decode(p)
		x, y := new(big.Int), new(big.Int)
		switch {
		case len(p) != 56 && len(p) != 57:
			badly(t, "Decode", a, e, api.ErrSize)
		case value(p).Cmp(modulus()) >= 0:
			badly(t, "Decode", a, e, api.ErrScalar)
		default:
			x = value(p)
			same(t, "Decode", a, x)
		}
		b, e := Reduce(s)
		if len(s) > 128 {
			badly(t, "Reduce", b, e, api.ErrSize)
		} else {
			y = left(value(s))
			same(t, "Reduce", b, y)
		}
		for kind := range byte(7) {
			c, z := call(t, kind, n, a, b, x, y)
			same(t, "made", c, z)
			d, z := call(t, kind, n, c, b, left(z), y)
			same(t, "made of what was made", d, z)
		}
		same(t, "Inverse", Inverse(b), inverse(y))
		if Equal(a, b) != (x.Cmp(y) == 0) || Zero(b) != (y.Sign() == 0) {
			t.Error("Equal or Zero")
		}
		c, e := Clamp(p)
		if size := len(p) == 56 || len(p) == 57; size && (e != api.OK || !bytes.Equal(c, clamped(p))) || !size && (e != api.ErrSize || len(c) != 0) {
			t.Errorf("Clamp of %x: %x, error %d", p, c, int(e))
		}
	})
}

func BenchmarkAdd(b *testing.B) {
	x, y := Int(-3), Int(-5)
	for range b.N {
		x = Add(x, y)
	}
}

func BenchmarkMul(b *testing.B) {
	x, y := Int(-3), Int(-5)
	for range b.N {
		x = Mul(x, y)
	}
}

func BenchmarkReduce(b *testing.B) {
	x := bytes.Repeat([]byte{255}, 114)
	for range b.N {
		Reduce(x)
	}
}

func BenchmarkInverse(b *testing.B) {
	x := Int(-3)
	for range b.N {
		x = Inverse(x)
	}
}
