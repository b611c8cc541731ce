package mult

import (
	"bytes"
	"encoding/hex"
	"math"
	"math/big"
	"slices"
	"strconv"
	"sync"
	"testing"
	"time"

	"chicory/api"
	"chicory/coding"
	"chicory/comb"
	"chicory/field"
	"chicory/point"
	"chicory/scalar"
	"chicory/shake"
)

// modulus is p by an other's hand. It is made once, and nobody writes into it.
var modulus = sync.OnceValue(func() *big.Int {
	p := power(448)
	return p.Sub(p, power(224)).Sub(p, big.NewInt(1))
})

// order is L by an other's hand.
func order() *big.Int {
	l, _ := new(big.Int).SetString("13818066809895115352007386748515426880336692474882178609894547503885", 10)
	return l.Sub(power(446), l)
}

// power is 2^k.
func power(k int) *big.Int { return new(big.Int).Lsh(big.NewInt(1), uint(k)) }

// less is x - n.
func less(x *big.Int, n int64) *big.Int { return new(big.Int).Sub(x, big.NewInt(n)) }

// fold is n times x.
func fold(n int64, x *big.Int) *big.Int { return new(big.Int).Mul(big.NewInt(n), x) }

// text is a number's bytes, so many or more, the lowest one first.
func text(x *big.Int, size int) []byte {
	b := x.FillBytes(make([]byte, max(size, (x.BitLen()+7)/8)))
	slices.Reverse(b)
	return b
}

// number is the number of bytes, the lowest one first.
func number(b []byte) *big.Int {
	b = slices.Clone(b)
	slices.Reverse(b)
	return new(big.Int).SetBytes(b)
}

// some is n bytes that are not much like each other.
func some(n int, seed uint64) []byte {
	b := make([]byte, n)
	for i := range b {
		seed = seed*6364136223846793005 + 1442695040888963407
		b[i] = byte(seed >> 56)
	}
	return b
}

// unhex is the bytes of hexadecimal digits.
func unhex(t testing.TB, s string) []byte {
	t.Helper()
	b, e := hex.DecodeString(s)
	if e != nil {
		t.Fatal(e)
	}
	return b
}

// reach is the point of two numbers, from 0 on and below 2^448, whose elements stand where the numbers do, at p or more, too.
func reach(t testing.TB, x, y *big.Int) point.Point {
	t.Helper()
	a, _ := field.Of(text(x, api.Field))
	b, _ := field.Of(text(y, api.Field))
	p, e := point.Of(a, b)
	if e != api.OK {
		t.Fatalf("%x, %x: %d", x, y, int(e))
	}
	return p
}

// quarters are the points of which four times is the identity, one after the other so many times the second one.
func quarters(t testing.TB) []point.Point {
	t.Helper()
	none, one, last := new(big.Int), big.NewInt(1), less(modulus(), 1)
	return []point.Point{reach(t, none, one), reach(t, one, none), reach(t, none, last), reach(t, last, none)}
}

// chance are n points of no one's choice: of bytes from a seed on, those that are a point's.
func chance(n int, seed uint64) []point.Point {
	var l []point.Point
	for ; len(l) < n; seed++ {
		b := some(api.Point, seed)
		b[api.Field] &= 128
		if p, e := coding.Decode(b); e == api.OK {
			l = append(l, p)
		}
	}
	return l
}

// named is a point, and what it is.
type named struct {
	name string
	p    point.Point
}

// points are points at which sums begin and end, made on some ways, and others.
func points(t testing.TB) []named {
	t.Helper()
	b, q := point.Base(), quarters(t)
	p := modulus()
	l := []named{
		{"the identity", point.Identity()},
		{"the identity, of a sum", point.Add(b, point.Neg(b))},
		{"the identity, of elements at p and more", reach(t, p, less(p, -1))},
		{"1, 0", q[1]},
		{"1, 0, of a sum", point.Add(point.Add(b, q[1]), point.Neg(b))},
		{"1, 0, of elements at p and more", reach(t, less(p, -1), p)},
		{"0, -1", q[2]},
		{"-1, 0", q[3]},
		{"the base", b},
		{"the base turned round", point.Neg(b)},
		{"the base doubled", point.Double(b)},
		{"the base and 1, 0", point.Add(b, q[1])},
		{"the base and 0, -1", point.Add(b, q[2])},
	}
	for i, p := range chance(3, 90) {
		l = append(l, named{"chance " + strconv.Itoa(i), p}, named{"chance and base " + strconv.Itoa(i), point.Add(p, b)})
	}
	return l
}

// alike tells whether two points' elements are the same.
func alike(p, q point.Point) bool {
	x, y := point.Affine(p)
	u, v := point.Affine(q)
	return bytes.Equal(field.Bytes(x), field.Bytes(u)) && bytes.Equal(field.Bytes(y), field.Bytes(v))
}

// same holds a point against an other one, by point's call, and by their elements.
func same(t testing.TB, what string, p, want point.Point) {
	t.Helper()
	if !point.Equal(p, want) || !alike(p, want) {
		t.Errorf("%s: %x, not %x", what, coding.Encode(p), coding.Encode(want))
	}
}

// sums is so many times a point, by point's sums alone.
func sums(k *big.Int, p point.Point) point.Point {
	if k.Sign() < 0 {
		return point.Neg(sums(new(big.Int).Neg(k), p))
	}
	out := point.Identity()
	for i := k.BitLen() - 1; i >= 0; i-- {
		out = point.Add(out, out)
		if k.Bit(i) == 1 {
			out = point.Add(out, p)
		}
	}
	return out
}

// sumsOf is all terms together, by point's sums alone.
func sumsOf(l []Term) point.Point {
	out := point.Identity()
	for _, x := range l {
		out = point.Add(out, sums(number(x.B), x.P))
	}
	return out
}

// product is Mult of as many bytes as there may be.
func product(t testing.TB, b []byte, p point.Point) point.Point {
	t.Helper()
	q, e := Mult(b, p)
	if e != api.OK {
		t.Errorf("Mult of %x: %d", b, int(e))
	}
	return q
}

// small is Small of a number that may be.
func small(t testing.TB, n int, p point.Point) point.Point {
	t.Helper()
	q, e := Small(n, p)
	if e != api.OK {
		t.Errorf("Small of %d: %d", n, int(e))
	}
	return q
}

// both is Both of as many bytes as there may be.
func both(t testing.TB, a []byte, p point.Point, b []byte, q point.Point) point.Point {
	t.Helper()
	out, e := Both(a, p, b, q)
	if e != api.OK {
		t.Errorf("Both of %x and %x: %d", a, b, int(e))
	}
	return out
}

// whole is Sum of terms that may be.
func whole(t testing.TB, l ...Term) point.Point {
	t.Helper()
	out, e := Sum(l...)
	if e != api.OK {
		t.Errorf("Sum of %d: %d", len(l), int(e))
	}
	return out
}

// refused holds an error's answer: the error asked for, and a point that one can reckon with.
func refused(t testing.TB, what string, p point.Point, e, want api.Errno) {
	t.Helper()
	if e != want || !alike(p, point.Identity()) {
		t.Errorf("%s: %d, not %d, beside %x", what, int(e), int(want), coding.Encode(p))
	}
}

// highest is n bytes of which the highest bit alone is 1.
func highest(n int) []byte {
	b := make([]byte, n)
	b[n-1] = 128
	return b
}

// texts are bytes of so many, of numbers at which sums begin and end, and others.
func texts(size int) [][]byte {
	l := [][]byte{make([]byte, size), text(big.NewInt(1), size), text(big.NewInt(255), size), highest(size)}
	for _, c := range []byte{255, 127, 128, 0x55, 0xaa, 0x0f, 0xf0, 0x84, 0x10, 1} {
		l = append(l, bytes.Repeat([]byte{c}, size))
	}
	for _, n := range []int64{1, 2, 3, 4, 16} {
		for _, by := range []int64{-1, 0, 1} {
			if b := text(less(fold(n, order()), by), size); len(b) == size {
				l = append(l, b)
			}
		}
	}
	for seed := range uint64(3) {
		l = append(l, some(size, seed+uint64(size)))
	}
	return l
}

// wrong are bytes of no number: none, and too many.
func wrong() [][]byte {
	l := [][]byte{nil, {}, some(9, 1)[:0]}
	for _, n := range []int{65, 66, 72, 127, 128, 129, 256, 1 << 16, 1 << 20} {
		l = append(l, make([]byte, n), bytes.Repeat([]byte{255}, n), text(big.NewInt(1), n))
	}
	return l
}

// held holds Mult against point's own sums.
func held(t testing.TB, c named, b []byte) {
	t.Helper()
	same(t, "Mult of "+hex.EncodeToString(b)+" and "+c.name, product(t, b, c.p), sums(number(b), c.p))
}

// P12.1: the chapter's example.
func TestExample(t *testing.T) {
	for _, c := range points(t) {
		same(t, c.name, product(t, []byte{3}, c.p), point.Add(c.p, point.Double(c.p)))
	}
}

// P12.1: Mult of numbers at which sums begin and end, of all points.
func TestMult(t *testing.T) {
	for n, c := range points(t) {
		for k, size := range []int{1, 2, 3, 4, 5, 8, 31, 56, 57, 63, 64} {
			for i, b := range texts(size) {
				if size < 4 || (n+k+i)%3 == 0 {
					held(t, c, b)
				}
			}
		}
	}
}

// P12.1: Mult of numbers of all sizes that may be.
func TestMultSizes(t *testing.T) {
	for size := 1; size <= 64; size++ {
		for i, b := range texts(size) {
			if i < 5 || i%4 == size%4 {
				held(t, named{"the base", point.Base()}, b)
			}
		}
	}
}

// P12.1: Mult of all numbers below 2^13, of the base and of a point with a quarter, each the one ahead and the point, together.
func TestMultShort(t *testing.T) {
	for _, p := range []point.Point{point.Base(), point.Add(chance(1, 5)[0], quarters(t)[1])} {
		want := point.Identity()
		for n := range 1 << 13 {
			if n < 256 && !point.Equal(product(t, []byte{byte(n)}, p), want) {
				t.Error(n, "by a byte: an other one")
			}
			if !point.Equal(product(t, []byte{byte(n), byte(n >> 8)}, p), want) {
				t.Error(n, "by two bytes: an other one")
			}
			want = point.Add(want, p)
		}
	}
}

// P12.1: Mult of each bit alone, and of all bits below it.
func TestMultBits(t *testing.T) {
	for _, p := range []point.Point{point.Base(), point.Add(chance(1, 17)[0], quarters(t)[3])} {
		want := p
		for i := range 8 * 64 {
			size := i/8 + 1
			if !point.Equal(product(t, text(power(i), size), p), want) {
				t.Error("bit", i, "alone: an other one")
			}
			if !point.Equal(product(t, text(less(power(i), 1), size), p), point.Add(want, point.Neg(p))) {
				t.Error("bits below", i, ": an other one")
			}
			want = point.Add(want, want)
		}
	}
}

// P12.1: L times the base is the identity, and L times a quarter is not; 4 L times any point is.
func TestMultOrder(t *testing.T) {
	l := order()
	for _, size := range []int{56, 57, 60, 64} {
		once, all := text(l, size), text(fold(4, l), max(size, 57))
		same(t, "L and the base", product(t, once, point.Base()), point.Identity())
		for i, q := range quarters(t) {
			same(t, "L and a quarter", product(t, once, q), quarters(t)[3*i%4]) // L leaves 3, divided by 4
			same(t, "L and the base and a quarter", product(t, once, point.Add(q, point.Base())), quarters(t)[3*i%4])
		}
		for _, c := range points(t) {
			same(t, "4 L and "+c.name, product(t, all, c.p), point.Identity())
			same(t, "1 less than 4 L and "+c.name, product(t, text(less(fold(4, l), 1), max(size, 57)), c.p), point.Neg(c.p))
			same(t, "1 more than 4 L and "+c.name, product(t, text(less(fold(4, l), -1), max(size, 57)), c.p), c.p)
		}
	}
}

// P12.1: Mult of no byte, nil or not, and of more than 64.
func TestMultWrong(t *testing.T) {
	for _, c := range points(t) {
		for _, b := range wrong() {
			p, e := Mult(b, c.p)
			refused(t, "Mult of "+strconv.Itoa(len(b))+" bytes", p, e, api.ErrSize)
		}
		for size := 1; size <= MaxSize; size += 21 {
			if _, e := Mult(make([]byte, size), c.p); e != api.OK {
				t.Error(size, int(e))
			}
		}
	}
	if MaxSize != 64 {
		t.Error(MaxSize)
	}
}

// P12.1: how Mult goes does not hang on the bits. If noughts of a number, or of its digits, were left out, others would take twice as long, and more. Once the least times are near each other they are enough.
func TestMultSteps(t *testing.T) {
	const size, rounds, enough = 57, 2000, 30
	l := [][]byte{make([]byte, size), text(big.NewInt(1), size), bytes.Repeat([]byte{255}, size), highest(size),
		bytes.Repeat([]byte{0x84, 0x10, 0x42, 0x08, 0x21}, size)[:size], bytes.Repeat([]byte{0x55}, size), some(size, 3)}
	least := slices.Repeat([]time.Duration{time.Hour}, len(l))
	p := chance(1, 3)[0]
	for k := range rounds {
		for i, b := range l {
			from := time.Now()
			Mult(b, p)
			least[i] = min(least[i], time.Since(from))
		}
		if k > enough && 5*slices.Max(least) < 6*slices.Min(least) {
			return
		}
	}
	t.Error("Mult took", least)
}

// P12.1: Small of numbers at both edges of digits, bytes and limits, of all points.
func TestSmall(t *testing.T) {
	for _, c := range points(t) {
		for _, n := range []int{0, 1, 2, 3, 7, 8, 9, 15, 16, 17, 31, 32, 33, 63, 64, 127, 128, 129, 255, 256, 257, 511, 512, 1023, 1024, 4095, 4096, 32767, 32768, 43690, 54321, 65534, 65535, 65536} {
			for _, k := range []int{n, -n} {
				same(t, "Small of "+strconv.Itoa(k)+" and "+c.name, small(t, k, c.p), sums(big.NewInt(int64(k)), c.p))
			}
		}
		same(t, "Small of 0", small(t, 0, c.p), point.Identity())
		same(t, "Small of 1", small(t, 1, c.p), c.p)
		same(t, "Small of -1", small(t, -1, c.p), point.Neg(c.p))
	}
}

// P12.1: Small of numbers from the least to the greatest one, each the one ahead and so many more, together.
func TestSmallAll(t *testing.T) {
	const step = 32
	p := point.Add(chance(1, 31)[0], quarters(t)[1])
	want, more := sums(big.NewInt(-65536), p), sums(big.NewInt(step), p)
	for n := -65536; n <= 65536; n += step {
		if !point.Equal(small(t, n, p), want) {
			t.Error("Small of", n, ": an other one")
		}
		want = point.Add(want, more)
	}
}

// P12.1: Small of a number beyond its limits.
func TestSmallWrong(t *testing.T) {
	for _, c := range points(t) {
		for _, n := range []int{65537, 65538, 65792, 131072, 1 << 24, 1<<24 + 1, 1<<31 - 1, 1 << 31, 1<<32 - 1, 1 << 32, 1<<32 + 1, 1 << 62, math.MaxInt - 1, math.MaxInt} {
			for _, k := range []int{n, -n, -n - 1} {
				p, e := Small(k, c.p)
				refused(t, "Small of "+strconv.Itoa(k), p, e, api.ErrRange)
			}
		}
		for _, n := range []int{-65537, math.MinInt, math.MinInt + 1} {
			p, e := Small(n, c.p)
			refused(t, "Small of "+strconv.Itoa(n), p, e, api.ErrRange)
		}
	}
}

// P12.1: Small of a number and of that below 0 come to the identity, together; of one that is not below 0 it is Mult.
func TestSmallTogether(t *testing.T) {
	for i, c := range points(t) {
		for _, n := range []int{0, 1, 2, 16, 255, 256, 1000 + i, 32768 - i, 65535, 65536} {
			p := small(t, n, c.p)
			same(t, c.name, point.Add(p, small(t, -n, c.p)), point.Identity())
			same(t, c.name, p, product(t, text(big.NewInt(int64(n)), 3), c.p))
			same(t, c.name, small(t, -n, c.p), small(t, n, point.Neg(c.p)))
		}
	}
}

// P12.2, P12.3: Both, of all points, with numbers of unlike lengths either way round, is point's own sums, and Mult and Mult, together.
func TestBoth(t *testing.T) {
	all := points(t)
	sizes := []int{1, 2, 5, 56, 57, 64}
	for i, c := range all {
		for k, d := range all {
			m, n := sizes[(i+k)%6], sizes[(i+3*k+1)%6]
			l, o := texts(m), texts(n)
			a, b := l[(3*i+k)%len(l)], o[(i+5*k)%len(o)]
			p := both(t, a, c.p, b, d.p)
			same(t, c.name+" and "+d.name, p, sumsOf([]Term{{a, c.p}, {b, d.p}}))
			same(t, c.name+" and "+d.name+", by Mult", p, point.Add(product(t, a, c.p), product(t, b, d.p)))
			same(t, c.name+" and "+d.name+", the other way round", p, both(t, b, d.p, a, c.p))
		}
	}
}

// P12.2: Both of numbers of all sizes, either way round.
func TestBothSizes(t *testing.T) {
	p, q := point.Base(), chance(1, 60)[0]
	for m := 1; m <= 64; m += 3 {
		for n := 1; n <= 64; n += 7 {
			a, b := some(m, uint64(n)), some(n, uint64(100+m))
			want := point.Add(product(t, a, p), product(t, b, q))
			if !point.Equal(both(t, a, p, b, q), want) || !point.Equal(both(t, b, q, a, p), want) {
				t.Error(m, "and", n, "bytes: an other one")
			}
		}
	}
	for _, m := range []int{1, 57, 64} {
		for _, n := range []int{1, 57, 64} {
			for _, a := range [][]byte{make([]byte, m), bytes.Repeat([]byte{255}, m), highest(m)} {
				for _, b := range [][]byte{make([]byte, n), bytes.Repeat([]byte{255}, n), highest(n)} {
					same(t, "Both at the edges", both(t, a, p, b, q), sumsOf([]Term{{a, p}, {b, q}}))
				}
			}
		}
	}
}

// P12.2: Both of one point twice is so many times it as both numbers are together; of a point and its negative, as one is less the other one.
func TestBothOfOne(t *testing.T) {
	for i, c := range points(t) {
		for _, size := range []int{1, 2, 57, 63} {
			a, b := some(size, uint64(i)), some(size, uint64(i+40))
			sum := new(big.Int).Add(number(a), number(b))
			less := new(big.Int).Sub(number(a), number(b))
			same(t, c.name+" twice", both(t, a, c.p, b, c.p), sums(sum, c.p))
			same(t, c.name+" twice, by Mult", both(t, a, c.p, b, c.p), product(t, text(sum, size+1), c.p))
			same(t, c.name+" and its negative", both(t, a, c.p, b, point.Neg(c.p)), sums(less, c.p))
			same(t, c.name+" and its negative, of one number", both(t, a, c.p, a, point.Neg(c.p)), point.Identity())
		}
	}
}

// P12.2: Both with no byte, or too many, of either number, or of both.
func TestBothWrong(t *testing.T) {
	p, q := point.Base(), chance(1, 8)[0]
	for _, b := range wrong() {
		for _, size := range []int{1, 57, 64} {
			out, e := Both(some(size, 1), p, b, q)
			refused(t, "Both, the second one of "+strconv.Itoa(len(b)), out, e, api.ErrSize)
			out, e = Both(b, p, some(size, 1), q)
			refused(t, "Both, the first one of "+strconv.Itoa(len(b)), out, e, api.ErrSize)
		}
		for _, a := range wrong() {
			out, e := Both(a, p, b, q)
			refused(t, "Both of "+strconv.Itoa(len(a))+" and "+strconv.Itoa(len(b)), out, e, api.ErrSize)
		}
	}
}

// terms are n terms of unlike lengths, of points of all kinds.
func terms(t testing.TB, n int, seed uint64) []Term {
	t.Helper()
	all := points(t)
	l := make([]Term, n)
	for i := range l {
		size := []int{57, 1, 64, 2, 56, 33, 3, 8}[(i+int(seed))%8]
		o := texts(size)
		l[i] = Term{o[(5*i+int(seed))%len(o)], all[(8+i+3*int(seed))%len(all)].p}
	}
	return l
}

// P12.2, P12.3: Sum of no term, and of all numbers of terms that may be, is point's own sums, and all Mults, together, in any order.
func TestSum(t *testing.T) {
	same(t, "Sum of none", whole(t), point.Identity())
	same(t, "Sum of nil", whole(t, []Term(nil)...), point.Identity())
	same(t, "Sum of an empty list", whole(t, []Term{}...), point.Identity())
	for n := range 17 {
		for seed := range uint64(4) {
			l := terms(t, n, seed)
			p := whole(t, l...)
			same(t, "Sum of "+strconv.Itoa(n), p, sumsOf(l))
			mults := point.Identity()
			for _, x := range l {
				mults = point.Add(mults, product(t, x.B, x.P))
			}
			same(t, "Sum of "+strconv.Itoa(n)+", by Mult", p, mults)
			slices.Reverse(l)
			same(t, "Sum of "+strconv.Itoa(n)+", the other way round", whole(t, l...), p)
		}
	}
}

// P12.2: Sum of one term is Mult, of two it is Both, told one by one.
func TestSumFew(t *testing.T) {
	for i, c := range points(t) {
		a, b := some(57, uint64(i)), some(1+i, uint64(i))
		same(t, c.name, whole(t, Term{a, c.p}), product(t, a, c.p))
		same(t, c.name, whole(t, Term{B: a, P: c.p}, Term{B: b, P: point.Base()}), both(t, a, c.p, b, point.Base()))
		same(t, c.name, whole(t, Term{[]byte{1}, c.p}, Term{[]byte{2, 0}, c.p}, Term{[]byte{3, 0, 0}, c.p}), small(t, 6, c.p))
	}
}

// P12.2: Sum of 16 terms of one point, and of all numbers that are greatest, or 0.
func TestSumFull(t *testing.T) {
	for _, c := range points(t) {
		full := slices.Repeat([]Term{{bytes.Repeat([]byte{255}, 64), c.p}}, 16)
		same(t, c.name, whole(t, full...), sums(new(big.Int).Lsh(less(power(512), 1), 4), c.p))
		none := slices.Repeat([]Term{{make([]byte, 64), c.p}}, 16)
		same(t, c.name, whole(t, none...), point.Identity())
		for i := range none {
			l := slices.Clone(none)
			l[i] = Term{[]byte{5}, c.p}
			same(t, c.name, whole(t, l...), small(t, 5, c.p))
		}
	}
}

// P12.2: Sum of more than 16 terms, of right ones and of others.
func TestSumMany(t *testing.T) {
	for _, n := range []int{17, 18, 31, 32, 33, 256, 272, 65536, 65552} {
		for _, x := range []Term{{[]byte{1}, point.Base()}, {[]byte{0}, point.Identity()}, {nil, point.Base()}, {make([]byte, 65), point.Base()}} {
			p, e := Sum(slices.Repeat([]Term{x}, n)...)
			refused(t, "Sum of "+strconv.Itoa(n), p, e, api.ErrSize)
		}
	}
	l := terms(t, 17, 2)
	p, e := Sum(l...)
	refused(t, "Sum of 17", p, e, api.ErrSize)
	same(t, "Sum of the first 16 of them", whole(t, l[:16]...), sumsOf(l[:16]))
	same(t, "Sum of the last 16 of them", whole(t, l[1:]...), sumsOf(l[1:]))
}

// P12.2: Sum of a term with no byte, or too many, at the first, a middle and the last place.
func TestSumWrong(t *testing.T) {
	for _, n := range []int{1, 2, 3, 9, 16} {
		right := slices.Repeat([]Term{{[]byte{1, 2}, point.Base()}}, n)
		for _, i := range []int{0, n / 2, n - 1} {
			for _, b := range wrong() {
				l := slices.Clone(right)
				l[i].B = b
				p, e := Sum(l...)
				refused(t, "Sum of "+strconv.Itoa(n)+", of which one has "+strconv.Itoa(len(b)), p, e, api.ErrSize)
			}
		}
	}
	var x Term
	p, e := Sum(x)
	refused(t, "Sum of a term without a number", p, e, api.ErrSize)
}

// P12.3: noughts behind do not count.
func TestNoughts(t *testing.T) {
	q := chance(1, 50)[0]
	for n, c := range points(t) {
		for k, size := range []int{1, 2, 7, 56, 57} {
			b := some(size, uint64(n))
			if n%2 == 1 {
				b[size-1] |= 128
			}
			p, two := product(t, b, c.p), both(t, b, c.p, b, q)
			for _, more := range []int{1 + (n+k)%6, 64 - size} {
				long := text(number(b), size+more)
				same(t, c.name, product(t, long, c.p), p)
				same(t, c.name, both(t, long, c.p, b, q), two)
				same(t, c.name, both(t, b, q, long, c.p), two)
				same(t, c.name, whole(t, Term{long, c.p}, Term{[]byte{0}, q}, Term{b, q}), two)
			}
		}
		for size := 1 + n%3; size <= 64; size += 3 {
			same(t, c.name, product(t, make([]byte, size), c.p), point.Identity())
			same(t, c.name, product(t, text(big.NewInt(1), size), c.p), c.p)
		}
	}
}

// P12.3: Mult of numbers one after the other is in either order, and that of their product, of any point modulo 4 L, too.
func TestInOrder(t *testing.T) {
	all := fold(4, order())
	for i, c := range points(t) {
		for k, sizes := range [][2]int{{1, 1}, {1, 63}, {32, 32}, {7, 57}, {57, 57}, {64, 64}, {64, 2}} {
			a, b := some(sizes[0], uint64(i+k)), some(sizes[1], uint64(i+k+70))
			p := product(t, a, product(t, b, c.p))
			same(t, c.name+", in the other order", product(t, b, product(t, a, c.p)), p)
			full := new(big.Int).Mul(number(a), number(b))
			if full.BitLen() <= 512 {
				same(t, c.name+", by the product", product(t, text(full, 64), c.p), p)
			}
			same(t, c.name+", by what is left of the product", product(t, text(full.Mod(full, all), 57), c.p), p)
		}
		same(t, c.name+", small ones", small(t, -300, small(t, 200, c.p)), small(t, -60000, c.p))
		same(t, c.name+", small ones below 0", small(t, -256, small(t, -256, c.p)), small(t, 65536, c.p))
	}
}

// P12.3: Mult of a sum of points is that of each, together; Mult of a sum of numbers likewise.
func TestTogether(t *testing.T) {
	all := points(t)
	for i, c := range all {
		d := all[(3*i+4)%len(all)]
		a, b := some(57, uint64(i)), some(57, uint64(i+9))
		same(t, c.name, product(t, a, point.Add(c.p, d.p)), both(t, a, c.p, a, d.p))
		sum := text(new(big.Int).Add(number(a), number(b)), 58)
		same(t, c.name, product(t, sum, c.p), both(t, a, c.p, b, c.p))
	}
}

// P12.1: Mult is what a comb of the same point tells.
func TestComb(t *testing.T) {
	for i, c := range points(t) {
		for _, size := range []int{1, 57, 64} {
			table, e := comb.New(c.p, 1+i%7, size)
			if e != api.OK {
				t.Fatal(int(e))
			}
			b := some(size, uint64(i))
			want, e := table.Mult(b)
			if e != api.OK {
				t.Fatal(int(e))
			}
			same(t, c.name, product(t, b, c.p), want)
		}
	}
}

// signed is a public key and a signature of RFC 8032, section 7.4.
type signed struct{ seed, public, message, r, s string }

// signatures are some of them.
func signatures() []signed {
	return []signed{
		{
			"6c82a562cb808d10d632be89c8513ebf6c929f34ddfa8c9f63c9960ef6e348a3528c8a3fcc2f044e39a3fc5b94492f8f032e7549a20098f95b",
			"5fd7449b59b461fd2ce787ec616ad46a1da1342485a70e1f8a0ea75d80e96778edf124769b46c7061bd6783df1e50f6cd1fa1abeafe8256180", "",
			"533a37f6bbe457251f023c0d88f976ae2dfb504a843e34d2074fd823d41a591f2b233f034f628281f2fd7a22ddd47d7828c59bd0a21bfd3980",
			"ff0d2028d4b18a9df63e006c5d1c2d345b925d8dc00b4104852db99ac5c7cdda8530a113a0f4dbb61149f05a7363268c71d95808ff2e652600",
		},
		{
			"c4eab05d357007c632f3dbb48489924d552b08fe0c353a0d4a1f00acda2c463afbea67c5e8d2877c5e3bc397a659949ef8021e954e0a12274e",
			"43ba28f430cdff456ae531545f7ecd0ac834a55d9358c0372bfa0c6c6798c0866aea01eb00742802b8438ea4cb82169c235160627b4c3a9480", "03",
			"26b8f91727bd62897af15e41eb43c377efb9c610d48f2335cb0bd0087810f4352541b143c4b981b7e18f62de8ccdf633fc1bf037ab7cd77980",
			"5e0dbcc0aae1cbcee1afb2e027df36bc04dcecbf154336c19f0af7e0a6472905e799f1953d2a0ff3348ab21aa4adafd1d234441cf807c03a00",
		},
		{
			"cd23d24f714274e744343237b93290f511f6425f98e64459ff203e8985083ffdf60500553abc0e05cd02184bdb89c4ccd67e187951267eb328",
			"dcea9e78f35a1bf3499a831b10b86c90aac01cd84b67a0109b55a36e9328b1e365fce161d71ce7131a543ea4cb5f7e9f1d8b00696447001400", "0c3e544074ec63b0265e0c",
			"1f0a8888ce25e8d458a21130879b840a9089d999aaba039eaf3e3afa090a09d389dba82c4ff2ae8ac5cdfb7c55e94d5d961a29fe0109941e00",
			"b8dbdeea6d3b051068df7254c0cdc129cbe62db2dc957dbb47b51fd3f213fb8698f064774250a5028961c9bf8ffd973fe5d5c206492b140e00",
		},
	}
}

// digest is the scalar of a signature's pieces.
func digest(pieces ...[]byte) scalar.Scalar {
	b, _ := shake.Sum(2*api.Point, append([][]byte{[]byte("SigEd448\x00\x00")}, pieces...)...)
	k, _ := scalar.Reduce(b)
	return k
}

// P12.1, P12.2: public keys and signatures of RFC 8032: a seed's number of times the base is its public key; the second half times the base, less the challenge times the key, is the first half.
func TestKnown(t *testing.T) {
	for i, c := range signatures() {
		b, _ := shake.Sum(2*api.Point, unhex(t, c.seed))
		secret, _ := scalar.Clamp(b[:api.Point])
		if b := coding.Encode(product(t, secret, point.Base())); hex.EncodeToString(b) != c.public {
			t.Errorf("%d: %x, not %s", i, b, c.public)
		}
		nonce := digest(b[api.Point:], unhex(t, c.message))
		if b := coding.Encode(product(t, scalar.Bytes(nonce), point.Base())); hex.EncodeToString(b) != c.r {
			t.Errorf("%d: %x, not %s", i, b, c.r)
		}
		public, e := coding.Decode(unhex(t, c.public))
		if e != api.OK {
			t.Fatal(int(e))
		}
		k := scalar.Bytes(digest(unhex(t, c.r), unhex(t, c.public), unhex(t, c.message)))
		s := unhex(t, c.s)
		for _, p := range []point.Point{
			both(t, s, point.Base(), k, point.Neg(public)), both(t, k, point.Neg(public), s, point.Base()),
			whole(t, Term{s, point.Base()}, Term{k, point.Neg(public)}),
		} {
			if b := coding.Encode(p); hex.EncodeToString(b) != c.r {
				t.Errorf("%d: %x, not %s", i, b, c.r)
			}
		}
	}
}

// P12.2: what is gone through is told from the highest place on, as long as it is asked for.
func TestPlaces(t *testing.T) {
	rows := []row{rowOf(Term{make([]byte, 1), point.Base()}), rowOf(Term{make([]byte, 9), point.Base()}), rowOf(Term{make([]byte, 4), point.Base()})}
	most := len(rows[1].digits)
	for n := range most + 1 {
		var l []int
		for i := range places(rows) {
			if len(l) == n {
				break
			}
			l = append(l, i)
		}
		if len(l) != n || n > 0 && (l[0] != most-1 || l[n-1] != most-n) {
			t.Error(l)
		}
	}
	for i := range places(nil) {
		t.Error(i)
	}
}

// P12.1: the table of a row has all that a digit can tell, of both signs.
func TestRow(t *testing.T) {
	for _, c := range points(t) {
		for n := range 256 {
			r := rowOf(Term{[]byte{byte(n)}, c.p})
			sum := point.Identity()
			for i, d := range slices.Backward(r.digits) {
				for range width {
					sum = point.Double(sum)
				}
				if p := r.at(i); !point.Equal(p, sums(big.NewInt(int64(d)), c.p)) {
					t.Errorf("%s: digit %d: an other one", c.name, d)
				}
				sum = point.Add(sum, r.at(i))
			}
			if !point.Equal(sum, sums(big.NewInt(int64(n)), c.p)) {
				t.Errorf("%s: %d: an other one", c.name, n)
			}
		}
	}
}

// R2: what is handed in stays as it is, and so does what stands behind it.
func TestKept(t *testing.T) {
	for _, size := range []int{0, 1, 2, 56, 57, 63, 64, 65, 100} {
		a, b := some(200, uint64(size)), some(200, uint64(size+1))
		p, q := point.Base(), chance(1, 2)[0]
		p1, q1 := p, q
		Mult(a[:size], p)
		Both(a[:size], p, b[:size], q)
		Both(a[:size], p, b[:9], q)
		Both(a[:9], p, b[:size], q)
		l := slices.Repeat([]Term{{a[:9], p}, {b[:size], q}}, 20)
		for _, n := range []int{0, 1, 2, 3, 15, 16, 17, 40} {
			Sum(l[:n]...)
		}
		Small(size, p)
		Small(-size, q)
		if !bytes.Equal(a, some(200, uint64(size))) || !bytes.Equal(b, some(200, uint64(size+1))) {
			t.Fatal("bytes were written into")
		}
		if p != p1 || q != q1 {
			t.Error("a point was turned")
		}
		for i, x := range l {
			n, c := 9, p
			if i%2 == 1 {
				n, c = size, q
			}
			if len(x.B) != n || cap(x.B) != 200 || x.P != c {
				t.Error("a term was written into")
			}
		}
	}
}

// R2: what is answered is the caller's: what is handed in may be turned afterwards, and no answer hangs together with an other one.
func TestOwn(t *testing.T) {
	a, b := some(57, 4), some(60, 5)
	p, q := point.Base(), chance(1, 2)[0]
	l := []Term{{a, p}, {b, q}, {a, q}}
	first, second, third := product(t, a, p), both(t, a, p, b, q), whole(t, l...)
	wants := []point.Point{sums(number(a), p), sumsOf(l[:2]), sumsOf(l)}
	clear(a)
	clear(b)
	same(t, "Mult of noughts", product(t, a, p), point.Identity())
	same(t, "Both of noughts", both(t, a, p, b, q), point.Identity())
	same(t, "Sum of noughts", whole(t, l...), point.Identity())
	clear(l)
	same(t, "Mult, when its bytes are others", first, wants[0])
	same(t, "Both, when its bytes are others", second, wants[1])
	same(t, "Sum, when its terms are others", third, wants[2])
	none, _ := Sum()
	none = point.Add(none, p)
	same(t, "Sum of none, again", whole(t), point.Identity())
	same(t, "what was put to it", none, p)
}

// R3: what is answered hangs on the arguments alone, not on calls ahead, of errors, too, nor on who else calls.
func TestOneState(t *testing.T) {
	l := terms(t, 16, 1)
	want := sumsOf(l)
	var wants []point.Point
	for _, x := range l {
		wants = append(wants, sums(number(x.B), x.P))
	}
	var wait sync.WaitGroup
	for n := range 4 {
		wait.Go(func() {
			for k := range 16 {
				i, j := k*(2*n+1)%16, (k+n)%16
				if _, e := Mult(make([]byte, 65), l[i].P); e != api.ErrSize {
					t.Error(int(e))
				}
				if _, e := Small(65537+n, l[i].P); e != api.ErrRange {
					t.Error(int(e))
				}
				if p, e := Mult(l[i].B, l[i].P); e != api.OK || !point.Equal(p, wants[i]) {
					t.Error("Mult: an other answer:", int(e))
				}
				if p, e := Both(l[i].B, l[i].P, l[j].B, l[j].P); e != api.OK || !point.Equal(p, point.Add(wants[i], wants[j])) {
					t.Error("Both: an other answer:", int(e))
				}
				if p, e := Sum(l...); e != api.OK || !point.Equal(p, want) {
					t.Error("Sum: an other answer:", int(e))
				}
				if p, e := Small(-k, l[i].P); e != api.OK || !point.Equal(p, sums(big.NewInt(int64(-k)), l[i].P)) {
					t.Error("Small: an other answer:", int(e))
				}
			}
		})
	}
	wait.Wait()
}

// P12.1, P12.2: any bytes, any number.
func FuzzAll(f *testing.F) {
	f.Add([]byte{}, []byte{3}, 0)
	f.Add([]byte{3}, []byte{}, -1)
	f.Add(bytes.Repeat([]byte{255}, 64), make([]byte, 65), 65536)
	f.Add(text(order(), 56), text(fold(4, order()), 57), -65537)
	f.Add(highest(64), highest(1), math.MinInt)
	f.Fuzz(func(t *testing.T, a, b []byte, n int) {
		p, q := point.Base(), point.Add(point.Double(point.Base()), quarters(t)[1])
		is := func(l ...[]byte) api.Errno {
			for _, b := range l {
				if len(b) < 1 || len(b) > 64 {
					return api.ErrSize
				}
			}
			return api.OK
		}
		hold := func(what string, out point.Point, e, want api.Errno, l ...Term) {
			t.Helper()
			if want != api.OK {
				refused(t, what, out, e, want)
				return
			}
			if e != api.OK || !alike(out, sumsOf(l)) {
				t.Errorf("%s of %x, %x: %d, %x", what, a, b, int(e), coding.Encode(out))
			}
		}
		x, y := Term{a, p}, Term{b, q}
		out, e := Mult(a, p)
		hold("Mult", out, e, is(a), x)
		out, e = Both(a, p, b, q)
		hold("Both", out, e, is(a, b), x, y)
		out, e = Sum(x, y, x)
		hold("Sum", out, e, is(a, b), x, y, x)
		out, e = Small(n, q)
		if n < -65536 || n > 65536 {
			refused(t, "Small", out, e, api.ErrRange)
		} else if e != api.OK || !alike(out, sums(big.NewInt(int64(n)), q)) {
			t.Errorf("Small of %d: %d, %x", n, int(e), coding.Encode(out))
		}
	})
}

func BenchmarkMult(b *testing.B) {
	k := some(api.Point, 1)
	for b.Loop() {
		Mult(k, point.Base())
	}
}

func BenchmarkBoth(b *testing.B) {
	k := some(api.Point, 1)
	for b.Loop() {
		Both(k, point.Base(), k, point.Base())
	}
}

func BenchmarkSmall(b *testing.B) {
	for b.Loop() {
		Small(-54321, point.Base())
	}
}
