package root

import (
	"bytes"
	"math/big"
	"slices"
	"testing"

	"chicory/api"
	"chicory/field"
)

// modulus is p by an other's hand.
func modulus() *big.Int {
	p := power(448)
	return p.Sub(p, power(224)).Sub(p, big.NewInt(1))
}

// power is 2^k.
func power(k uint) *big.Int { return new(big.Int).Lsh(big.NewInt(1), k) }

// less is x - n.
func less(x *big.Int, n int64) *big.Int { return new(big.Int).Sub(x, big.NewInt(n)) }

// left is what x leaves, divided by p, x being below 0, too.
func left(x *big.Int) *big.Int { return new(big.Int).Mod(x, modulus()) }

// times is x times y, modulo p.
func times(x, y *big.Int) *big.Int { return left(new(big.Int).Mul(x, y)) }

// minus is 0 less x, modulo p.
func minus(x *big.Int) *big.Int { return left(new(big.Int).Neg(x)) }

// text is a number's bytes, so many or more, the lowest one first.
func text(x *big.Int, size int) []byte {
	b := x.FillBytes(make([]byte, max(size, (x.BitLen()+7)/8)))
	slices.Reverse(b)
	return b
}

// number is the number of bytes, the lowest one first.
func number(b []byte) *big.Int {
	b = slices.Clone(b)
	slices.Reverse(b)
	return new(big.Int).SetBytes(b)
}

// some is n bytes that are not much like each other.
func some(n int, seed uint64) []byte {
	b := make([]byte, n)
	for i := range b {
		seed = seed*6364136223846793005 + 1442695040888963407
		b[i] = byte(seed >> 56)
	}
	return b
}

// of is the element of a number below 2^448, whose limbs stand where the number does, at p or more, too.
func of(t *testing.T, x *big.Int) field.Element {
	t.Helper()
	a, e := field.Of(text(x, api.Field))
	if e != api.OK {
		t.Fatal(int(e))
	}
	return a
}

// same holds an element against a number from 0 to p - 1.
func same(t *testing.T, what string, a field.Element, want *big.Int) {
	t.Helper()
	if b := field.Bytes(a); !bytes.Equal(b, text(want, api.Field)) {
		t.Errorf("%s: %x, not %x", what, b, text(want, api.Field))
	}
}

// sample is an element, and its number from 0 to p - 1.
type sample struct {
	a field.Element
	x *big.Int
}

// numbers are those at which limbs, p, and what is counted by it, begin and end, and others, all below 2^448.
func numbers() []*big.Int {
	p := modulus()
	l := []*big.Int{
		big.NewInt(39080), big.NewInt(39081), big.NewInt(39082), less(p, 39081), power(40), power(447), power(446),
		power(223), power(222), power(224), less(power(224), 1), less(power(224), -1), power(56), less(power(56), 1),
		new(big.Int).Rsh(p, 1), less(new(big.Int).Rsh(p, 1), -1), new(big.Int).Rsh(p, 2), less(new(big.Int).Rsh(p, 2), -1),
		less(power(448), 1), less(power(448), 2), less(power(448), 3), less(power(448), 4), new(big.Int).Sub(power(448), power(223)),
	}
	for n := range int64(18) {
		l = append(l, big.NewInt(n), less(p, n), less(p, -n))
	}
	for k := range uint64(8) {
		l = append(l, number(some(api.Field, k)))
	}
	return l
}

// samples are elements of all these numbers, and the same ones made on other ways.
func samples(t *testing.T) []sample {
	t.Helper()
	l := []sample{{field.Element{}, big.NewInt(0)}}
	top := of(t, less(power(448), 1))
	for i, x := range numbers() {
		a := of(t, x)
		ways := []field.Element{
			field.Sub(field.Add(a, top), top), field.Neg(field.Neg(a)), field.Add(a, of(t, modulus())),
			field.Mul(a, of(t, less(modulus(), -1))), field.Times(field.Times(a, -1), -1), of(t, left(x)),
		}
		l = append(l, sample{a, left(x)}, sample{ways[i%len(ways)], left(x)})
		if x.BitLen() < 5 || x.Cmp(less(modulus(), 3)) > 0 {
			for _, a := range ways {
				l = append(l, sample{a, left(x)})
			}
		}
	}
	return l
}

// few are some of the samples, of all kinds.
func few(t *testing.T) []sample {
	t.Helper()
	l := samples(t)
	out := slices.Clone(l[:1])
	for i := 1; i < len(l); i += 5 {
		out = append(out, l[i])
	}
	for _, x := range []*big.Int{big.NewInt(0), big.NewInt(1), big.NewInt(4), less(modulus(), 1), modulus(), less(modulus(), -1), less(power(448), 1)} {
		out = append(out, sample{of(t, x), left(x)})
	}
	return out
}

// even is the one of x and 0 less x that is even, or 0.
func even(x *big.Int) *big.Int {
	if x.Bit(0) == 1 {
		return minus(x)
	}
	return x
}

// rooted is the root of x that is even, or nil.
func rooted(x *big.Int) *big.Int {
	r := new(big.Int).ModSqrt(x, modulus())
	if r == nil {
		return nil
	}
	return even(r)
}

// inverse is 1 divided by x, of 0 it is 0.
func inverse(x *big.Int) *big.Int {
	if x.Sign() == 0 {
		return x
	}
	return new(big.Int).ModInverse(x, modulus())
}

// ratio is what Ratio is to answer of numbers, by the chapter's words.
func ratio(u, v *big.Int) (*big.Int, bool) {
	if u.Sign() == 0 {
		return u, true
	}
	if v.Sign() == 0 {
		return v, false
	}
	q := times(u, inverse(v))
	if r := rooted(q); r != nil {
		return r, true
	}
	return rooted(minus(q)), false
}

// exponents are bytes of numbers at which powers begin and end, of noughts, of many bytes, and others.
func exponents() [][]byte {
	p := modulus()
	l := [][]byte{
		nil, {}, {0}, make([]byte, 2), make([]byte, 56), make([]byte, 300), {1}, {2}, {3}, {4}, {5}, {127}, {128}, {129}, {255},
		{0, 1}, {1, 1}, {255, 255}, {0, 0, 128}, {1, 0, 0}, {5, 0, 0, 0, 0, 0, 0, 0, 0},
		text(less(power(448), 1), 56), text(power(448), 57), text(power(446), 56),
	}
	for n := int64(-2); n < 5; n++ {
		l = append(l, text(less(p, n), 56), text(less(p, n), 57), text(less(p, n), 500))
	}
	for _, x := range []*big.Int{new(big.Int).Rsh(p, 1), new(big.Int).Rsh(p, 2), less(new(big.Int).Rsh(p, 2), -1), new(big.Int).Lsh(p, 1), new(big.Int).Mul(p, p), new(big.Int).Mul(p, less(p, 1))} {
		l = append(l, text(x, 1))
	}
	for n := range 12 {
		l = append(l, some(n*n, uint64(n)), append(some(n*n, uint64(n)), make([]byte, n)...))
	}
	return l
}

// P5.1, P5.2: the chapter's examples.
func TestExamples(t *testing.T) {
	p := modulus()
	r, e := Root(field.Int(4))
	if e != api.OK {
		t.Error(int(e))
	}
	same(t, "Root of 4", r, big.NewInt(2))
	same(t, "Inverse of 2", Inverse(field.Int(2)), new(big.Int).Rsh(less(p, -1), 1))
	r, is := Ratio(field.Int(-1), field.Int(1))
	same(t, "Ratio of -1 and 1", r, less(p, 1))
	if is {
		t.Error("Ratio of -1 and 1: true")
	}
}

// P5.1: Power, by no bytes, by noughts, by p and those about it, by many bytes.
func TestPower(t *testing.T) {
	for _, c := range few(t) {
		for _, b := range exponents() {
			same(t, "Power", Power(c.a, b), new(big.Int).Exp(c.x, number(b), modulus()))
		}
	}
}

// P5.1: Power is 1, if the number is 0, of a 0, too; and 0 of a 0, if it is not.
func TestPowerOfNought(t *testing.T) {
	for _, b := range [][]byte{nil, {}, {0}, make([]byte, 55), make([]byte, 56), make([]byte, 57), make([]byte, 5000)} {
		for _, c := range samples(t)[:20] {
			same(t, "a power of 0", Power(c.a, b), big.NewInt(1))
		}
		for _, a := range []field.Element{{}, field.Int(0), of(t, modulus()), field.Neg(field.Element{}), field.Sub(field.Int(3), field.Int(3))} {
			same(t, "0 by 0", Power(a, b), big.NewInt(1))
			same(t, "0 by more", Power(a, append(slices.Clone(b), 1)), big.NewInt(0))
			same(t, "0 by more", Power(a, append([]byte{128}, b...)), big.NewInt(0))
		}
	}
}

// P5.1: Power by each bit alone, and by all up to it.
func TestPowerBits(t *testing.T) {
	a, x := of(t, number(some(56, 99))), left(number(some(56, 99)))
	one, all := new(big.Int).Set(x), big.NewInt(1)
	for k := range uint(600) {
		same(t, "2^k", Power(a, text(power(k), 1)), one)
		same(t, "2^k - 1", Power(a, text(less(power(k), 1), 0)), all)
		all = times(all, one)
		one = times(one, one)
	}
}

// P5.1: Power by very many bytes.
func TestPowerLong(t *testing.T) {
	for _, x := range []*big.Int{big.NewInt(0), big.NewInt(1), big.NewInt(3), less(modulus(), 1), less(power(448), 1)} {
		for _, b := range [][]byte{some(4000, 1), bytes.Repeat([]byte{255}, 3000), append(some(60, 2), make([]byte, 10000)...), append(make([]byte, 5000), 1)} {
			same(t, "Power", Power(of(t, x), b), new(big.Int).Exp(left(x), number(b), modulus()))
		}
	}
}

// P5.1: what goes by p stays, by p - 1 is 1, by p - 2 is the inverse.
func TestFermat(t *testing.T) {
	p := modulus()
	for _, c := range samples(t) {
		same(t, "by p", Power(c.a, field.P()), c.x)
		one := big.NewInt(1)
		if c.x.Sign() == 0 {
			one = c.x
		}
		same(t, "by p - 1", Power(c.a, text(less(p, 1), 56)), one)
		if a := Power(c.a, text(less(p, 2), 56)); !field.Equal(a, Inverse(c.a)) {
			t.Errorf("%x by p - 2: %x", c.x, field.Bytes(a))
		}
	}
}

// P5.3: Power of a sum is the product of powers; and Power of a product is Power of Power.
func TestPowerOfSum(t *testing.T) {
	l := exponents()
	for k, c := range few(t) {
		for i, b := range l {
			if i%5 != k%5 {
				continue
			}
			d := l[(7*i+3)%len(l)]
			sum := new(big.Int).Add(number(b), number(d))
			if !field.Equal(Power(c.a, text(sum, 0)), field.Mul(Power(c.a, b), Power(c.a, d))) {
				t.Errorf("%x by %x and %x, together", c.x, b, d)
			}
			product := new(big.Int).Mul(number(b), number(d))
			if !field.Equal(Power(c.a, text(product, 0)), Power(Power(c.a, b), d)) {
				t.Errorf("%x by %x times %x", c.x, b, d)
			}
		}
	}
}

// P5.1: Inverse.
func TestInverse(t *testing.T) {
	for _, c := range samples(t) {
		same(t, "Inverse", Inverse(c.a), inverse(c.x))
	}
	for n := int64(1); n < 300; n++ {
		same(t, "Inverse", Inverse(field.Int(int(n))), inverse(big.NewInt(n)))
		same(t, "Inverse", Inverse(field.Int(int(-n))), inverse(left(big.NewInt(-n))))
	}
	for k := range uint(448) {
		same(t, "Inverse", Inverse(of(t, power(k))), inverse(power(k)))
	}
	same(t, "Inverse of 0", Inverse(field.Element{}), big.NewInt(0))
	same(t, "Inverse of 1", Inverse(field.Int(1)), big.NewInt(1))
	same(t, "Inverse of p - 1", Inverse(field.Int(-1)), less(modulus(), 1))
}

// P5.3: a times its inverse is 1, unless a is 0; the inverse of the inverse is a.
func TestInverseLaw(t *testing.T) {
	for _, c := range samples(t) {
		one := big.NewInt(1)
		if c.x.Sign() == 0 {
			one = c.x
		}
		same(t, "a times its inverse", field.Mul(c.a, Inverse(c.a)), one)
		same(t, "the inverse of the inverse", Inverse(Inverse(c.a)), c.x)
	}
}

// P5.1: Negative and Abs, of elements whose limbs stand at p or more, too.
func TestNegative(t *testing.T) {
	l := samples(t)
	for k := range uint(448) {
		for n := int64(-1); n < 2; n++ {
			x := less(power(k), n)
			l = append(l, sample{of(t, x), left(x)})
		}
	}
	for _, c := range l {
		if Negative(c.a) != (c.x.Bit(0) == 1) {
			t.Errorf("Negative(%x): %t", c.x, Negative(c.a))
		}
		same(t, "Abs", Abs(c.a), even(c.x))
		same(t, "Abs of 0 less it", Abs(field.Neg(c.a)), even(c.x))
		same(t, "Abs of Abs", Abs(Abs(c.a)), even(c.x))
		if Negative(Abs(c.a)) {
			t.Errorf("Abs(%x) is negative", c.x)
		}
		if c.x.Sign() != 0 && Negative(c.a) == Negative(field.Neg(c.a)) {
			t.Errorf("%x, and 0 less it: Negative is %t of both", c.x, Negative(c.a))
		}
	}
}

// P5.1: the edges of Negative and Abs, told one by one.
func TestNegativeEdges(t *testing.T) {
	p := modulus()
	for _, c := range []struct {
		x, abs *big.Int
		is     bool
	}{
		{big.NewInt(0), big.NewInt(0), false}, {big.NewInt(1), less(p, 1), true}, {big.NewInt(2), big.NewInt(2), false},
		{less(p, 1), less(p, 1), false}, {less(p, 2), big.NewInt(2), true}, {p, big.NewInt(0), false},
		{less(p, -1), less(p, 1), true}, {less(p, -2), big.NewInt(2), false}, {less(power(448), 1), power(224), false},
		{less(power(448), 2), new(big.Int).Sub(p, less(power(224), 1)), true},
	} {
		if Negative(of(t, c.x)) != c.is {
			t.Errorf("Negative(%x): %t", c.x, !c.is)
		}
		same(t, "Abs", Abs(of(t, c.x)), c.abs)
	}
}

// sameRoot holds Root of an element against what it is to be.
func sameRoot(t *testing.T, a field.Element, x *big.Int) {
	t.Helper()
	r, e := Root(a)
	want := rooted(x)
	if want == nil {
		if e != api.ErrNone || r != (field.Element{}) {
			t.Errorf("Root(%x): %x, error %d, not error %d", x, field.Bytes(r), int(e), int(api.ErrNone))
		}
		return
	}
	if e != api.OK {
		t.Errorf("Root(%x): error %d", x, int(e))
	}
	same(t, "Root", r, want)
	if Negative(r) || !field.Equal(field.Square(r), a) {
		t.Errorf("Root(%x): %x", x, field.Bytes(r))
	}
}

// P5.2: Root, of squares and of such as are none.
func TestRoot(t *testing.T) {
	for _, c := range samples(t) {
		sameRoot(t, c.a, c.x)
		sameRoot(t, field.Square(c.a), times(c.x, c.x))
		sameRoot(t, field.Neg(field.Square(c.a)), minus(times(c.x, c.x)))
	}
	for n := range 300 {
		sameRoot(t, field.Int(n), big.NewInt(int64(n)))
		sameRoot(t, field.Int(-n), left(big.NewInt(int64(-n))))
	}
	for k := range uint(448) {
		sameRoot(t, of(t, power(k)), power(k))
	}
}

// P5.2: the edges of Root, told one by one.
func TestRootEdges(t *testing.T) {
	p := modulus()
	for _, c := range []struct {
		x, r *big.Int // r is nil, if there is none
	}{
		{big.NewInt(0), big.NewInt(0)}, {big.NewInt(1), less(p, 1)}, {big.NewInt(4), big.NewInt(2)}, {big.NewInt(9), less(p, 3)},
		{less(p, 1), nil}, {less(p, 4), nil}, {p, big.NewInt(0)}, {less(p, -1), less(p, 1)}, {less(p, -4), big.NewInt(2)},
		{power(224), power(112)}, {less(power(448), 1), power(112)},
	} {
		r, e := Root(of(t, c.x))
		if c.r == nil {
			if e != api.ErrNone || r != (field.Element{}) {
				t.Errorf("Root(%x): %x %d", c.x, field.Bytes(r), int(e))
			}
			continue
		}
		if e != api.OK {
			t.Errorf("Root(%x): error %d", c.x, int(e))
		}
		same(t, "Root", r, c.r)
	}
}

// P5.3: of an element that is not 0 either it, or 0 less it, is a square; the Root of a times a is Abs of a.
func TestRootLaws(t *testing.T) {
	for _, c := range samples(t) {
		_, e := Root(c.a)
		_, g := Root(field.Neg(c.a))
		if c.x.Sign() == 0 && (e != api.OK || g != api.OK) || c.x.Sign() != 0 && (e == api.OK) == (g == api.OK) {
			t.Errorf("%x: errors %d and %d", c.x, int(e), int(g))
		}
		r, e := Root(field.Square(c.a))
		if e != api.OK || !field.Equal(r, Abs(c.a)) {
			t.Errorf("the root of %x times itself: %x, error %d", c.x, field.Bytes(r), int(e))
		}
	}
}

// P5.2: Ratio, of many pairs: of u 0, of v 0, of both, of squares and of such as are none.
func TestRatio(t *testing.T) {
	for i, c := range samples(t) {
		l := few(t)
		for j, d := range l {
			if i%4 != j%4 && j != len(l)-1 {
				continue
			}
			r, is := Ratio(c.a, d.a)
			want, so := ratio(c.x, d.x)
			if is != so {
				t.Errorf("Ratio(%x, %x): %t", c.x, d.x, is)
			}
			same(t, "Ratio", r, want)
			if Negative(r) {
				t.Errorf("Ratio(%x, %x) is negative", c.x, d.x)
			}
		}
	}
}

// P5.2: the edges of Ratio, told one by one.
func TestRatioEdges(t *testing.T) {
	p := modulus()
	for _, c := range []struct {
		u, v, r *big.Int
		is      bool
	}{
		{big.NewInt(0), big.NewInt(0), big.NewInt(0), true}, {p, big.NewInt(0), big.NewInt(0), true}, {big.NewInt(0), p, big.NewInt(0), true},
		{big.NewInt(0), big.NewInt(1), big.NewInt(0), true}, {p, less(p, 1), big.NewInt(0), true},
		{big.NewInt(1), big.NewInt(0), big.NewInt(0), false}, {less(p, 1), p, big.NewInt(0), false}, {big.NewInt(4), p, big.NewInt(0), false},
		{big.NewInt(1), big.NewInt(1), less(p, 1), true}, {big.NewInt(8), big.NewInt(2), big.NewInt(2), true}, {less(p, 8), less(p, 2), big.NewInt(2), true},
		{less(p, 8), big.NewInt(2), big.NewInt(2), false}, {big.NewInt(8), less(p, 2), big.NewInt(2), false}, {big.NewInt(1), less(p, 1), less(p, 1), false},
		{less(p, -8), less(p, -2), big.NewInt(2), true},
	} {
		r, is := Ratio(of(t, c.u), of(t, c.v))
		if is != c.is {
			t.Errorf("Ratio(%x, %x): %t", c.u, c.v, is)
		}
		same(t, "Ratio", r, c.r)
	}
}

// P5.1, P5.2: the zero value is 0 in each call.
func TestZeroValue(t *testing.T) {
	var o field.Element
	none := big.NewInt(0)
	same(t, "Power", Power(o, []byte{0}), big.NewInt(1))
	same(t, "Power", Power(o, []byte{3}), none)
	same(t, "Inverse", Inverse(o), none)
	same(t, "Abs", Abs(o), none)
	if Negative(o) {
		t.Error("0 is negative")
	}
	r, e := Root(o)
	same(t, "Root", r, none)
	if e != api.OK {
		t.Error(int(e))
	}
	for _, c := range samples(t) {
		r, is := Ratio(o, c.a)
		same(t, "0 divided", r, none)
		if !is {
			t.Errorf("0 divided by %x: false", c.x)
		}
		r, is = Ratio(c.a, o)
		same(t, "divided by 0", r, none)
		if is != (c.x.Sign() == 0) {
			t.Errorf("%x divided by 0: %t", c.x, is)
		}
	}
}

// R2: bytes that are handed in stay as they are, and so does what stands behind them, and counts nothing.
func TestBytesAreKept(t *testing.T) {
	for _, b := range exponents() {
		whole := append(slices.Clone(b), 11, 12, 13)
		want := slices.Clone(whole)
		r := Power(field.Int(3), whole[:len(b)])
		if !bytes.Equal(whole, want) {
			t.Errorf("%x: written into", b)
		}
		clear(whole)
		same(t, "Power", r, new(big.Int).Exp(big.NewInt(3), number(b), modulus()))
	}
}

// R2, R3: elements that are handed in stay as they are; what is answered once is answered again.
func TestElementsAreKept(t *testing.T) {
	for _, c := range few(t) {
		for _, d := range few(t)[:8] {
			a, b := c.a, d.a
			r, is := Ratio(a, b)
			s, so := Ratio(a, b)
			x, e := Root(a)
			y, g := Root(a)
			if a != c.a || b != d.a || r != s || is != so || x != y || e != g || Power(a, []byte{7, 9}) != Power(a, []byte{7, 9}) || Inverse(a) != Inverse(a) || Abs(a) != Abs(a) || a != c.a {
				t.Errorf("%x and %x: not the same again", c.x, d.x)
			}
		}
	}
}

// All calls, of any bytes, against an other's hand.
func FuzzCalls(f *testing.F) {
	f.Add(text(less(modulus(), 1), 56), text(less(power(448), 1), 56), []byte{})
	f.Add(field.P(), make([]byte, 56), field.P())
	f.Add(text(big.NewInt(4), 56), text(big.NewInt(9), 56), make([]byte, 100))
	f.Fuzz(func(t *testing.T, u, v, n []byte) {
		a, _ := field.Of(u)
		b, _ := field.Of(v)
		x, y := number(field.Bytes(a)), number(field.Bytes(b))
		same(t, "Power", Power(a, n), new(big.Int).Exp(x, number(n), modulus()))
		same(t, "Inverse", Inverse(a), inverse(x))
		same(t, "Abs", Abs(a), even(x))
		if Negative(a) != (x.Bit(0) == 1) {
			t.Error("Negative")
		}
		sameRoot(t, a, x)
		r, is := Ratio(a, b)
		want, so := ratio(x, y)
		same(t, "Ratio", r, want)
		if is != so {
			t.Error("Ratio", is)
		}
	})
}

func BenchmarkPower(b *testing.B) {
	x, p := field.Int(-3), field.P()
	for range b.N {
		x = Power(x, p)
	}
}

func BenchmarkInverse(b *testing.B) {
	x := field.Int(-3)
	for range b.N {
		x = Inverse(x)
	}
}

func BenchmarkRoot(b *testing.B) {
	x := field.Int(4)
	for range b.N {
		Root(x)
	}
}

func BenchmarkRatio(b *testing.B) {
	x, y := field.Int(-3), field.Int(5)
	for range b.N {
		Ratio(x, y)
	}
}
