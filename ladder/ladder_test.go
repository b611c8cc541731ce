package ladder

import (
	"bytes"
	"encoding/hex"
	"math/big"
	"slices"
	"sync"
	"testing"

	"chicory/api"
	"chicory/field"
	"chicory/point"
	"chicory/scalar"
)

// modulus is p by an other's hand. It is made once, and nobody writes into it.
var modulus = sync.OnceValue(func() *big.Int {
	p := power(448)
	return p.Sub(p, power(224)).Sub(p, big.NewInt(1))
})

// order is L by an other's hand.
func order() *big.Int {
	l, _ := new(big.Int).SetString("13818066809895115352007386748515426880336692474882178609894547503885", 10)
	return l.Sub(power(446), l)
}

// power is 2^k.
func power(k uint) *big.Int { return new(big.Int).Lsh(big.NewInt(1), k) }

// less is x - n.
func less(x *big.Int, n int64) *big.Int { return new(big.Int).Sub(x, big.NewInt(n)) }

// left is what x leaves, divided by p, x being below 0, too.
func left(x *big.Int) *big.Int { return new(big.Int).Mod(x, modulus()) }

// times is all together multiplied, modulo p.
func times(l ...*big.Int) *big.Int {
	out := big.NewInt(1)
	for _, x := range l {
		out = left(out.Mul(out, x))
	}
	return out
}

// plus is x and y together, modulo p.
func plus(x, y *big.Int) *big.Int { return left(new(big.Int).Add(x, y)) }

// minus is x less y, modulo p.
func minus(x, y *big.Int) *big.Int { return left(new(big.Int).Sub(x, y)) }

// inverse is 1 divided by x, of 0 it is 0.
func inverse(x *big.Int) *big.Int {
	if left(x).Sign() == 0 {
		return new(big.Int)
	}
	return new(big.Int).ModInverse(x, modulus())
}

// text is a number's bytes, so many or more, the lowest one first.
func text(x *big.Int, size int) []byte {
	b := x.FillBytes(make([]byte, max(size, (x.BitLen()+7)/8)))
	slices.Reverse(b)
	return b
}

// number is the number of bytes, the lowest one first.
func number(b []byte) *big.Int {
	b = slices.Clone(b)
	slices.Reverse(b)
	return new(big.Int).SetBytes(b)
}

// some is n bytes that are not much like each other.
func some(n int, seed uint64) []byte {
	b := make([]byte, n)
	for i := range b {
		seed = seed*6364136223846793005 + 1442695040888963407
		b[i] = byte(seed >> 56)
	}
	return b
}

// unhex is the bytes of hexadecimal digits.
func unhex(t testing.TB, s string) []byte {
	t.Helper()
	b, e := hex.DecodeString(s)
	if e != nil {
		t.Fatal(e)
	}
	return b
}

// of is the element of a number below 2^448, whose limbs stand where the number does, at p or more, too.
func of(t testing.TB, x *big.Int) field.Element {
	t.Helper()
	a, e := field.Of(text(x, api.Field))
	if e != api.OK {
		t.Fatal(int(e))
	}
	return a
}

// same holds an element against a number from 0 to p - 1.
func same(t testing.TB, what string, a field.Element, want *big.Int) {
	t.Helper()
	if b := field.Bytes(a); !bytes.Equal(b, text(want, api.Field)) {
		t.Errorf("%s: %x, not %x", what, b, text(want, api.Field))
	}
}

// fractions are two of them, or, of one, what stands at 0 alone.
type fractions struct{ x, z [2]*big.Int }

// stepped is a step, by the chapter's words.
func stepped(u *big.Int, f fractions) fractions {
	a, b := plus(f.x[0], f.z[0]), minus(f.x[0], f.z[0])
	c, e := plus(f.x[1], f.z[1]), minus(f.x[1], f.z[1])
	s, t := times(e, a), times(c, b)
	w := minus(times(a, a), times(b, b))
	return fractions{
		[2]*big.Int{times(a, a, b, b), times(plus(s, t), plus(s, t))},
		[2]*big.Int{times(w, plus(times(a, a), times(big.NewInt(39081), w))), times(u, minus(s, t), minus(s, t))},
	}
}

// changed are fractions the other way round.
func changed(f fractions) fractions {
	return fractions{[2]*big.Int{f.x[1], f.x[0]}, [2]*big.Int{f.z[1], f.z[0]}}
}

// climbed is the ladder of a number of so many bits, and u, by the chapter's words.
func climbed(k *big.Int, bits int, u *big.Int) *big.Int {
	one, none := big.NewInt(1), new(big.Int)
	f := fractions{[2]*big.Int{one, left(u)}, [2]*big.Int{none, one}}
	for i := bits - 1; i >= 0; i-- {
		if k.Bit(i) == 0 {
			f = stepped(u, f)
			continue
		}
		f = changed(stepped(u, changed(f)))
	}
	return times(f.x[0], inverse(f.z[0]))
}

// asked is what X448 is to answer, by the words of P10.2.
func asked(k, u []byte) ([]byte, api.Errno) {
	if len(k) != 56 || len(u) != 56 {
		return nil, api.ErrSize
	}
	out := climbed(clamped(k), 448, left(number(u)))
	if out.Sign() == 0 {
		return nil, api.ErrZero
	}
	return text(out, api.Field), api.OK
}

// clamped is the number of 56 bytes, its highest bit 1, its two lowest ones 0.
func clamped(k []byte) *big.Int {
	n := number(k)
	return n.SetBit(n.SetBit(n.SetBit(n, 447, 1), 0, 0), 1, 0)
}

// place is a point of the curve b v v = u u u + 156326 u u + u, or, without numbers, the one at infinity. It is reckoned with as schools teach it: by what is between two points, or at one.
type place struct{ u, v *big.Int }

// found is the curve, b, that a u is on, and a point of that u. There is always one, as -1 is no square.
func found(u *big.Int) (*big.Int, place) {
	side := plus(times(u, u, u), plus(times(big.NewInt(156326), u, u), u))
	for _, b := range []*big.Int{big.NewInt(1), left(big.NewInt(-1))} {
		if v := new(big.Int).ModSqrt(times(side, b), modulus()); v != nil {
			return b, place{left(u), v}
		}
	}
	return nil, place{}
}

// together is two points' sum, on the curve of b.
func together(b *big.Int, p, q place) place {
	if p.u == nil {
		return q
	}
	if q.u == nil {
		return p
	}
	var slope *big.Int
	switch {
	case p.u.Cmp(q.u) != 0:
		slope = times(minus(q.v, p.v), inverse(minus(q.u, p.u)))
	case plus(p.v, q.v).Sign() == 0:
		return place{}
	default:
		up := plus(plus(times(big.NewInt(3), p.u, p.u), times(big.NewInt(2*156326), p.u)), big.NewInt(1))
		slope = times(up, inverse(times(big.NewInt(2), b, p.v)))
	}
	u := minus(minus(minus(times(b, slope, slope), big.NewInt(156326)), p.u), q.u)
	return place{u, minus(times(slope, minus(p.u, u)), p.v)}
}

// manifold is the u of so many times the point of a u, 0 of the one at infinity, by school's sums.
func manifold(k, u *big.Int) *big.Int {
	b, p := found(u)
	var out place
	for i := k.BitLen() - 1; i >= 0; i-- {
		out = together(b, out, out)
		if k.Bit(i) == 1 {
			out = together(b, out, p)
		}
	}
	if out.u == nil {
		return new(big.Int)
	}
	return out.u
}

// sample is an element, and its number from 0 to p - 1.
type sample struct {
	a field.Element
	x *big.Int
}

// edges are numbers at which p, its bytes, and what a ladder is of, begin and end, all below 2^448.
func edges() []*big.Int {
	p := modulus()
	return []*big.Int{
		big.NewInt(0), big.NewInt(1), big.NewInt(2), big.NewInt(5), big.NewInt(39081), less(p, 39081), less(p, 5), less(p, 2), less(p, 1),
		p, less(p, -1), less(p, -5), power(224), less(power(224), 1), less(power(448), 1), less(power(448), 2),
	}
}

// samples are elements of the edges, made on some ways, and others.
func samples(t testing.TB) []sample {
	t.Helper()
	l := []sample{{field.Element{}, new(big.Int)}, {field.Int(-1), less(modulus(), 1)}, {field.Int(5), big.NewInt(5)}}
	top := of(t, less(power(448), 1))
	for _, x := range edges() {
		a := of(t, x)
		l = append(l, sample{a, left(x)}, sample{field.Sub(field.Add(a, top), top), left(x)}, sample{field.Neg(field.Neg(a)), left(x)})
	}
	for seed := range uint64(6) {
		x := number(some(api.Field, seed))
		l = append(l, sample{of(t, x), left(x)}, sample{field.Mul(of(t, x), top), times(x, less(power(448), 1))})
	}
	return l
}

// held holds a step of five samples against the chapter's words: all four numbers. It answers what became.
func held(t testing.TB, u sample, x, z [2]sample) (xs, zs [2]field.Element) {
	t.Helper()
	xs, zs = Step(u.a, [2]field.Element{x[0].a, x[1].a}, [2]field.Element{z[0].a, z[1].a})
	want := stepped(u.x, fractions{[2]*big.Int{x[0].x, x[1].x}, [2]*big.Int{z[0].x, z[1].x}})
	for i := range xs {
		if bytes.Equal(field.Bytes(xs[i]), text(want.x[i], 56)) && bytes.Equal(field.Bytes(zs[i]), text(want.z[i], 56)) {
			continue
		}
		t.Errorf("Step of %x, %x / %x and %x / %x: %d: %x / %x", u.x, x[0].x, z[0].x, x[1].x, z[1].x, i, field.Bytes(xs[i]), field.Bytes(zs[i]))
	}
	return xs, zs
}

// ladder is Ladder of bytes that are not too many.
func ladder(t testing.TB, k []byte, u field.Element) field.Element {
	t.Helper()
	a, e := Ladder(k, u)
	if e != api.OK {
		t.Errorf("Ladder of %x: %d", k, int(e))
	}
	return a
}

// exchange holds X448 against what is asked of it, and answers that.
func exchange(t testing.TB, k, u []byte) ([]byte, api.Errno) {
	t.Helper()
	want, e := asked(k, u)
	b, n := X448(k, u)
	if n != e || !bytes.Equal(b, want) {
		t.Errorf("X448 of %x, %x: %x, %d, not %x, %d", k, u, b, int(n), want, int(e))
	}
	return want, e
}

// P10.1, P10.2: the chapter's examples.
func TestExamples(t *testing.T) {
	for _, c := range samples(t) {
		same(t, "Ladder of 1", ladder(t, []byte{1}, c.a), c.x)
		same(t, "Ladder of 0", ladder(t, []byte{0}, c.a), new(big.Int))
	}
	for seed := range uint64(20) {
		if b, e := X448(some(56, seed), make([]byte, 56)); b != nil || e != api.ErrZero {
			t.Errorf("X448 of u 0: %x, %d", b, int(e))
		}
	}
}

// P10.1: steps that are written out: all four numbers.
func TestStepWritten(t *testing.T) {
	for _, c := range []struct {
		u            int
		x, z, xs, zs [2]int
	}{
		{5, [2]int{1, 5}, [2]int{0, 1}, [2]int{1, 100}, [2]int{0, 20}},
		{5, [2]int{2, 3}, [2]int{1, 1}, [2]int{9, 100}, [2]int{2501256, 20}},
		{7, [2]int{0, 0}, [2]int{1, 1}, [2]int{1, 4}, [2]int{0, 0}},
		{7, [2]int{0, 1}, [2]int{1, 0}, [2]int{1, 0}, [2]int{0, 28}},
		{7, [2]int{1, 0}, [2]int{0, 1}, [2]int{1, 0}, [2]int{0, 28}},
		{7, [2]int{1, 1}, [2]int{0, 0}, [2]int{1, 4}, [2]int{0, 0}},
		{7, [2]int{0, 2}, [2]int{0, 3}, [2]int{0, 0}, [2]int{0, 0}},
		{7, [2]int{2, 0}, [2]int{3, 0}, [2]int{25, 0}, [2]int{24 * (25 + 39081*24), 0}},
		{0, [2]int{2, 3}, [2]int{1, 1}, [2]int{9, 100}, [2]int{2501256, 0}},
		{-1, [2]int{2, 3}, [2]int{1, 1}, [2]int{9, 100}, [2]int{2501256, -4}},
		{1, [2]int{1, 4}, [2]int{1, 2}, [2]int{0, 16}, [2]int{16 * 39082, 16}},
		{1, [2]int{1, 4}, [2]int{-1, 2}, [2]int{0, 144}, [2]int{-4 * (0 - 4*39081), 144}},
		{0, [2]int{0, 0}, [2]int{0, 0}, [2]int{0, 0}, [2]int{0, 0}},
	} {
		two := func(l [2]int) [2]field.Element {
			return [2]field.Element{field.Int(l[0]), field.Int(l[1])}
		}
		xs, zs := Step(field.Int(c.u), two(c.x), two(c.z))
		for i := range xs {
			same(t, "above", xs[i], left(big.NewInt(int64(c.xs[i]))))
			same(t, "below", zs[i], left(big.NewInt(int64(c.zs[i]))))
		}
	}
}

// P10.1: Step of fractions of all kinds: each pair of samples at each pair of places, the others being others.
func TestStep(t *testing.T) {
	l := samples(t)
	for i, a := range l {
		for k, b := range l {
			c, d, e := l[(7*i+k+3)%len(l)], l[(i+11*k+5)%len(l)], l[(3*i+5*k+1)%len(l)]
			held(t, c, [2]sample{a, d}, [2]sample{b, e}) // one fraction
			held(t, c, [2]sample{d, a}, [2]sample{e, b})
			held(t, c, [2]sample{a, b}, [2]sample{d, e}) // above both, and below both
			held(t, c, [2]sample{d, e}, [2]sample{a, b})
			held(t, a, [2]sample{b, d}, [2]sample{e, c}) // u
			held(t, a, [2]sample{d, c}, [2]sample{e, b})
		}
	}
}

// P10.1: Step of all fractions of the numbers whose sums and differences are 0, at both places, and of u 0, 1, p - 1 and 5, of elements that stand below p and at p or more.
func TestStepEdges(t *testing.T) {
	var l []sample
	for _, x := range []*big.Int{new(big.Int), modulus(), big.NewInt(1), less(modulus(), -1), less(modulus(), 1), less(power(448), 1)} {
		l = append(l, sample{of(t, x), left(x)})
	}
	for _, u := range append(slices.Clone(l), sample{field.Int(5), big.NewInt(5)}) {
		for i := range len(l) * len(l) * len(l) * len(l) {
			var four [4]sample
			for n := range four {
				four[n] = l[i%len(l)]
				i /= len(l)
			}
			held(t, u, [2]sample(four[:2]), [2]sample(four[2:]))
		}
	}
}

// P10.1: steps one behind the other, of what became, without any limb being put right between them.
func TestStepRows(t *testing.T) {
	for seed := range uint64(4) {
		u := number(some(56, seed))
		f := fractions{[2]*big.Int{big.NewInt(1), left(u)}, [2]*big.Int{new(big.Int), big.NewInt(1)}}
		x, z := [2]field.Element{field.Int(1), of(t, u)}, [2]field.Element{field.Int(0), field.Int(1)}
		for range 300 {
			f = changed(stepped(u, f))
			x, z = Step(of(t, u), x, z)
			x[0], x[1], z[0], z[1] = x[1], x[0], z[1], z[0]
			for i := range x {
				same(t, "above", x[i], f.x[i])
				same(t, "below", z[i], f.z[i])
			}
		}
	}
}

// P10.1: Step of points' u: the first one twice, and both together, if u is the difference's.
func TestStepPoints(t *testing.T) {
	for seed := range uint64(20) {
		b, p := found(number(some(56, seed)))
		q := together(b, p, p)
		for range 4 {
			// q and p are apart by p less than they are together
			r := together(b, q, p)
			x, z := Step(of(t, p.u), [2]field.Element{of(t, q.u), of(t, r.u)}, [2]field.Element{field.Int(1), field.Int(1)})
			twice, both := together(b, q, q), together(b, q, r)
			same(t, "twice", x[0], times(twice.u, number(field.Bytes(z[0]))))
			same(t, "both", x[1], times(both.u, number(field.Bytes(z[1]))))
			if field.Zero(z[0]) || field.Zero(z[1]) {
				t.Error("nothing below")
			}
			q = r
		}
	}
}

// rows are bytes of numbers at which a ladder begins and ends, of noughts, of many bytes, and others, 64 at most.
func rows() [][]byte {
	l := [][]byte{
		nil, {}, {0}, make([]byte, 2), make([]byte, 56), make([]byte, 64), {1}, {2}, {3}, {4}, {5}, {6}, {7}, {8}, {127}, {128}, {129}, {255},
		{0, 1}, {1, 1}, {255, 255}, {0, 128}, {0, 0, 128}, {1, 0, 0}, {5, 0, 0, 0, 0, 0, 0, 0, 0}, append([]byte{1}, make([]byte, 63)...),
		append(make([]byte, 63), 1), append(make([]byte, 63), 128), append(make([]byte, 55), 128), append(make([]byte, 56), 1),
		bytes.Repeat([]byte{255}, 64), bytes.Repeat([]byte{255}, 63), bytes.Repeat([]byte{255}, 56), bytes.Repeat([]byte{0x55}, 64), bytes.Repeat([]byte{0xaa}, 57),
	}
	for n := int64(-2); n < 3; n++ {
		for _, times := range []int64{1, 2, 4, 8} {
			x := new(big.Int).Mul(order(), big.NewInt(times))
			l = append(l, text(less(x, n), 56), text(less(x, n), 64))
		}
		l = append(l, text(less(modulus(), n), 57))
	}
	for n := range 10 {
		l = append(l, some(7*n+1, uint64(n)))
	}
	return l
}

// P10.1: Ladder is that of the chapter's words, of numbers and u of all kinds.
func TestLadder(t *testing.T) {
	l, all := samples(t), rows()
	for i, k := range all {
		for n, c := range l {
			if (i+n)%13 != 0 {
				continue
			}
			same(t, hex.EncodeToString(k)+" and "+c.x.String(), ladder(t, k, c.a), climbed(number(k), 8*len(k), c.x))
		}
	}
}

// P10.1: Ladder of each u that is told of, and of each number that is.
func TestLadderEdges(t *testing.T) {
	for _, x := range edges() {
		for _, k := range rows() {
			if len(k) < 8 || x.BitLen() < 2 {
				same(t, hex.EncodeToString(k)+" and "+x.String(), ladder(t, k, of(t, x)), climbed(number(k), 8*len(k), left(x)))
			}
		}
	}
	for _, k := range rows() {
		for n, c := range samples(t) {
			if c.x.Sign() == 0 && !field.Zero(ladder(t, k, c.a)) {
				t.Errorf("Ladder of %x and of 0, %d: not 0", k, n)
			}
		}
		one, odd := ladder(t, k, field.Int(1)), len(k) > 0 && k[0]&1 == 1
		if want := new(big.Int); odd { // four times that point is the one at infinity, twice it has a u of 0
			same(t, "Ladder of 1 and an odd number", one, want.SetInt64(1))
		} else {
			same(t, "Ladder of 1 and an even number", one, want)
		}
		other := ladder(t, k, field.Int(-1))
		if want := new(big.Int); odd {
			same(t, "Ladder of -1 and an odd number", other, less(modulus(), 1))
		} else {
			same(t, "Ladder of -1 and an even number", other, want)
		}
	}
}

// P10.1: Ladder of numbers that stand one behind the other is what school's sums come to, on both curves.
func TestLadderSchool(t *testing.T) {
	curves := map[string]int{}
	us := []*big.Int{big.NewInt(0), big.NewInt(1), big.NewInt(2), big.NewInt(3), big.NewInt(5), less(modulus(), 1), less(modulus(), 2), less(modulus(), 5)}
	for seed := range uint64(6) {
		us = append(us, left(number(some(56, seed))))
	}
	for _, u := range us {
		b, p := found(u)
		curves[b.String()]++
		var q place
		for n := range 260 {
			want := q.u
			if want == nil {
				want = new(big.Int)
			}
			k := []byte{byte(n), byte(n >> 8)}
			same(t, "Ladder of "+u.String(), ladder(t, k, of(t, u)), want)
			if n < 256 {
				same(t, "Ladder of "+u.String(), ladder(t, k[:1], of(t, u)), want)
			}
			q = together(b, q, p)
		}
	}
	if len(curves) != 2 {
		t.Error(curves)
	}
}

// P10.1: Ladder of great numbers is what school's sums come to.
func TestLadderSchoolGreat(t *testing.T) {
	for i, k := range rows() {
		u := number(some(56, uint64(i)))
		if i%3 == 0 {
			u = big.NewInt(5)
		}
		same(t, hex.EncodeToString(k), ladder(t, k, of(t, u)), manifold(number(k), left(u)))
	}
}

// P10.1: ErrSize beyond 64 bytes, whatever they are, and OK up to them.
func TestLadderSizes(t *testing.T) {
	five := field.Int(5)
	for n := range 400 {
		for _, k := range [][]byte{make([]byte, n), bytes.Repeat([]byte{255}, n), some(n, 5)} {
			a, e := Ladder(k, five)
			if n <= 64 && e != api.OK || n > 64 && (e != api.ErrSize || a != field.Element{}) {
				t.Errorf("%d bytes: %d", n, int(e))
			}
			if n <= 64 && n%9 == 1 {
				same(t, "Ladder", a, climbed(number(k), 8*n, big.NewInt(5)))
			}
		}
	}
	for _, n := range []int{64 + 256, 65536, 65537, 65536 + 56} {
		if a, e := Ladder(make([]byte, n), five); e != api.ErrSize || !field.Zero(a) {
			t.Errorf("%d bytes: %d", n, int(e))
		}
	}
	a, e := Ladder(nil, five)
	if e != api.OK || !field.Zero(a) {
		t.Error("of nil:", int(e))
	}
}

// P10.3: noughts ahead of a number turn nothing.
func TestNoughtsAhead(t *testing.T) {
	for i, c := range samples(t) {
		k := some(i%20, uint64(i))
		want := field.Bytes(ladder(t, k, c.a))
		for n := len(k); n <= 64; n += 1 + i%5 {
			if b := field.Bytes(ladder(t, append(slices.Clone(k), make([]byte, n-len(k))...), c.a)); !bytes.Equal(b, want) {
				t.Errorf("%x in %d bytes, of %x: %x, not %x", k, n, c.x, b, want)
			}
		}
	}
}

// P10.1: a number turned by 1 is an other one, at each of its bits, the lowest and the highest, too.
func TestLadderBits(t *testing.T) {
	k, five := some(64, 8), field.Int(5)
	first := ladder(t, k, five)
	for i := range 8 * len(k) {
		other := slices.Clone(k)
		other[i/8] ^= 1 << (i % 8)
		a := ladder(t, other, five)
		if field.Equal(a, first) {
			t.Error("bit", i, "turns nothing")
		}
		if i%50 == 0 || i > 508 {
			same(t, "Ladder", a, climbed(number(other), 512, big.NewInt(5)))
		}
	}
}

// P10.3: ladders one behind the other are that of the product, in whatever order; numbers go by 4 L of the base's u, and by L, as n and 0 less n are the same.
func TestLadderLaws(t *testing.T) {
	five := field.Int(5)
	for seed := range uint64(12) {
		u, a, b := of(t, number(some(56, seed))), some(int(1+2*seed), seed+50), some(int(3+seed), seed+90)
		both := ladder(t, text(new(big.Int).Mul(number(a), number(b)), 1), u)
		if !field.Equal(ladder(t, a, ladder(t, b, u)), both) || !field.Equal(ladder(t, b, ladder(t, a, u)), both) {
			t.Errorf("%x and %x: not their product's", a, b)
		}
		n := number(some(55, seed))
		want := ladder(t, text(n, 1), five)
		up, down := new(big.Int).Add(order(), n), new(big.Int).Sub(order(), n)
		if !field.Equal(ladder(t, text(up, 1), five), want) || !field.Equal(ladder(t, text(down, 1), five), want) {
			t.Errorf("%x and L: an other one", n)
		}
	}
	for _, k := range []int64{1, 2, 3, 4, 5, 100} {
		if a := ladder(t, text(new(big.Int).Mul(order(), big.NewInt(k)), 1), five); !field.Zero(a) {
			t.Error(k, "times L: not 0")
		}
	}
}

// mult is so many times a point.
func mult(k *big.Int, p point.Point) point.Point {
	out := point.Identity()
	for i := k.BitLen() - 1; i >= 0; i-- {
		out = point.Double(out)
		if k.Bit(i) == 1 {
			out = point.Add(out, p)
		}
	}
	return out
}

// across is the u of a point of edwards448, y y divided by x x, and whether its x is other than 0.
func across(p point.Point) (*big.Int, bool) {
	a, b := point.Affine(p)
	x, y := number(field.Bytes(a)), number(field.Bytes(b))
	return times(y, y, inverse(times(x, x))), x.Sign() != 0
}

// points are those of edwards448 whose x is not 0: four of which one is the base, and others.
func points(t testing.TB) []point.Point {
	t.Helper()
	b := point.Base()
	var l []point.Point
	for _, x := range []int{1, -1} {
		q, e := point.Of(field.Int(x), field.Int(0)) // four times it is the identity
		if e != api.OK {
			t.Fatal(int(e))
		}
		l = append(l, q, point.Add(b, q))
	}
	half, e := point.Of(field.Int(0), field.Int(-1))
	if e != api.OK {
		t.Fatal(int(e))
	}
	l = append(l, b, point.Neg(b), point.Add(b, half))
	for n := uint64(1); n < 8; n++ {
		l = append(l, mult(number(some(int(7*n), n)), b), point.Add(mult(number(some(int(7*n), n+100)), b), l[n%4]))
	}
	return l
}

// P10.3: the ladder of n and a point's u is that of the point n times, 0, if its x is 0.
func TestLadderPoints(t *testing.T) {
	zero, rest := 0, 0
	for i, p := range points(t) {
		u, is := across(p)
		if !is {
			t.Fatal(i, "has an x of 0")
		}
		for n, k := range rows() {
			if (i+n)%4 != 0 && len(k) > 3 {
				continue
			}
			want, is := across(mult(number(k), p))
			if !is {
				want = new(big.Int)
				zero++
			} else {
				rest++
			}
			same(t, hex.EncodeToString(k), ladder(t, k, of(t, u)), want)
		}
	}
	if zero < 30 || rest < 200 {
		t.Error(zero, "of an x of 0,", rest, "others")
	}
}

// P10.3: the base's u is 5, and each of its multiples' u is the ladder's of 5.
func TestLadderBase(t *testing.T) {
	u, _ := across(point.Base())
	if u.Cmp(big.NewInt(5)) != 0 {
		t.Errorf("the base's u: %x", u)
	}
	p := point.Base()
	for n := 1; n < 600; n++ {
		u, _ := across(p)
		same(t, "Ladder", ladder(t, []byte{byte(n), byte(n >> 8)}, field.Int(5)), u)
		p = point.Add(p, point.Base())
	}
}

// P10.2: numbers of RFC 7748, section 5.2.
func TestKnown(t *testing.T) {
	for _, c := range []struct{ k, u, want string }{
		{
			"3d262fddf9ec8e88495266fea19a34d28882acef045104d0d1aae121700a779c984c24f8cdd78fbff44943eba368f54b29259a4f1c600ad3",
			"06fce640fa3487bfda5f6cf2d5263f8aad88334cbd07437f020f08f9814dc031ddbdc38c19c6da2583fa5429db94ada18aa7a7fb4ef8a086",
			"ce3e4ff95a60dc6697da1db1d85e6afbdf79b50a2412d7546d5f239fe14fbaadeb445fc66a01b0779d98223961111e21766282f73dd96b6f",
		},
		{
			"203d494428b8399352665ddca42f9de8fef600908e0d461cb021f8c538345dd77c3e4806e25f46d3315c44e0a5b4371282dd2c8d5be3095f",
			"0fbcc2f993cd56d3305b0b7d9e55d4c1a8fb5dbb52f8e9a1e9b6201b165d015894e56c4d3570bee52fe205e28a78b91cdfbde71ce8d157db",
			"884a02576239ff7a2f2f63b2db6a9ff37047ac13568e1e30fe63c4a7ad1b3ee3a5700df34321d62077e63633c575c1c954514e99da7c179d",
		},
	} {
		b, e := X448(unhex(t, c.k), unhex(t, c.u))
		if e != api.OK || hex.EncodeToString(b) != c.want {
			t.Errorf("X448: %x, %d, not %s", b, int(e), c.want)
		}
		exchange(t, unhex(t, c.k), unhex(t, c.u))
	}
}

// P10.2: calls one behind the other, each of what came ahead, of RFC 7748, section 5.2.
func TestKnownRows(t *testing.T) {
	k := append([]byte{5}, make([]byte, 55)...)
	u := slices.Clone(k)
	for n := 1; n <= 1000; n++ {
		b, e := X448(k, u)
		if e != api.OK {
			t.Fatal(n, int(e))
		}
		k, u = b, k
		want := map[int]string{
			1:    "3f482c8a9f19b01e6c46ee9711d9dc14fd4bf67af30765c2ae2b846a4d23a8cd0db897086239492caf350b51f833868b9bc2b3bca9cf4113",
			1000: "aa3b4749d55b9daf1e5b00288826c467274ce3ebbdd5c17b975e09d4af6c67cf10d087202db88286e2b79fceea3ec353ef54faa26e219f38",
		}[n]
		if want != "" && hex.EncodeToString(k) != want {
			t.Errorf("%d: %x, not %s", n, k, want)
		}
	}
}

// P10.2, P10.3: numbers of RFC 7748, section 6.2.
func TestKnownCommon(t *testing.T) {
	const common = "07fff4181ac6cc95ec1c16a94a0f74d12da232ce40a77552281d282bb60c0b56fd2464c335543936521c24403085d59a449a5037514a879d"
	keys := []struct{ secret, public string }{
		{
			"9a8f4925d1519f5775cf46b04b5800d4ee9ee8bae8bc5565d498c28dd9c9baf574a9419744897391006382a6f127ab1d9ac2d8c0a598726b",
			"9b08f7cc31b7e3e67d22d5aea121074a273bd2b83de09c63faa73d2c22c5d9bbc836647241d953d40c5b12da88120d53177f80e532c41fa0",
		},
		{
			"1c306a7ac2a0e2e0990b294470cba339e6453772b075811d8fad0d1d6927c120bb5ee8972b0d3e21374c9c921b09d1b0366f10b65173992d",
			"3eb7a829b0cd20f5bcfc0b599b6feccf6da4627107bdb0d4f345b43027d8b972fc3e34fb4232a13ca706dcb57aec3dae07bdc1c67bf33609",
		},
	}
	for i, c := range keys {
		b, e := Public(unhex(t, c.secret))
		if e != api.OK || hex.EncodeToString(b) != c.public {
			t.Errorf("Public: %x, %d, not %s", b, int(e), c.public)
		}
		b, e = X448(unhex(t, c.secret), unhex(t, keys[1-i].public))
		if e != api.OK || hex.EncodeToString(b) != common {
			t.Errorf("X448: %x, %d, not %s", b, int(e), common)
		}
	}
}

// codes are 56 bytes of secret numbers of all kinds.
func codes() [][]byte {
	l := [][]byte{make([]byte, 56), bytes.Repeat([]byte{255}, 56), bytes.Repeat([]byte{0x55}, 56), append([]byte{3}, make([]byte, 55)...), append(make([]byte, 55), 127)}
	for n := int64(-2); n < 5; n++ {
		l = append(l, text(less(new(big.Int).Lsh(order(), 2), n), 56), text(less(modulus(), n), 56))
	}
	for seed := range uint64(8) {
		l = append(l, some(56, seed+30))
	}
	return l
}

// P10.2: X448 of numbers and u of all kinds is that of the chapter's words, and of school's sums.
func TestX448(t *testing.T) {
	for i, k := range codes() {
		for n, u := range append(edges(), number(some(56, uint64(i)))) {
			if (i+n)%7 != 0 {
				continue
			}
			b, e := exchange(t, k, text(u, 56))
			if want := manifold(clamped(k), left(u)); !bytes.Equal(b, text(want, 56)) && (e != api.ErrZero || want.Sign() != 0) {
				t.Errorf("X448 of %x, %x: %x, %d, not %x", k, u, b, int(e), want)
			}
		}
	}
}

// P10.2: numbers of p or more are what they leave: p is 0, p and 5 are the base's u, 2^448 less 1 is 2^224.
func TestX448FromP(t *testing.T) {
	p := modulus()
	for i, k := range codes() {
		if b, e := X448(k, text(p, 56)); b != nil || e != api.ErrZero {
			t.Errorf("u of p: %x, %d", b, int(e))
		}
		for _, c := range [][2]*big.Int{
			{less(p, -5), big.NewInt(5)}, {less(power(448), 1), power(224)}, {less(p, -2), big.NewInt(2)},
			{new(big.Int).Add(p, power(223)), power(223)}, {less(p, int64(-100*i)), big.NewInt(int64(100 * i))},
		} {
			first, e := X448(k, text(c[0], 56))
			second, n := X448(k, text(c[1], 56))
			if e != n || !bytes.Equal(first, second) {
				t.Errorf("u of %x: %x, %d; of %x: %x, %d", c[0], first, int(e), c[1], second, int(n))
			}
		}
		b, e := X448(k, text(less(p, -5), 56))
		if c, n := Public(k); e != n || !bytes.Equal(b, c) {
			t.Errorf("u of p and 5: %x, %d", b, int(e))
		}
	}
}

// P10.2: ErrZero of the u whose points' four times is the one at infinity: 0, 1 and p - 1, wherever they stand; of no u is an answer 0.
func TestX448Zero(t *testing.T) {
	p := modulus()
	for _, u := range []*big.Int{new(big.Int), big.NewInt(1), less(p, 1), p, less(p, -1)} {
		for _, k := range codes() {
			if b, e := X448(k, text(u, 56)); b != nil || e != api.ErrZero {
				t.Errorf("u of %x: %x, %d", u, b, int(e))
			}
		}
	}
	for n := int64(2); n < 40; n++ {
		for _, u := range []*big.Int{big.NewInt(n), less(p, n), less(p, -n)} {
			b, e := X448(some(56, uint64(n)), text(u, 56))
			if e != api.OK || len(b) != 56 || number(b).Sign() == 0 || number(b).Cmp(p) >= 0 {
				t.Errorf("u of %x: %x, %d", u, b, int(e))
			}
		}
	}
}

// P10.2: a secret number's two lowest bits and its highest one turn nothing, each other one does.
func TestX448Clamped(t *testing.T) {
	u := some(56, 12)
	for _, k := range [][]byte{some(56, 13), make([]byte, 56), bytes.Repeat([]byte{255}, 56)} {
		first, e := X448(k, u)
		if e != api.OK {
			t.Fatal(int(e))
		}
		for i := range 448 {
			other := slices.Clone(k)
			other[i/8] ^= 1 << (i % 8)
			b, e := X448(other, u)
			turns := i > 1 && i < 447
			if e != api.OK || bytes.Equal(b, first) == turns {
				t.Errorf("bit %d of %x: %x, %d", i, k, b, int(e))
			}
		}
		for _, last := range []byte{0, 128} {
			for low := range byte(4) {
				other := slices.Clone(k)
				other[0], other[55] = k[0]&^3|low, k[55]&127|last
				exchange(t, other, u)
				if b, e := X448(other, u); e != api.OK || !bytes.Equal(b, first) {
					t.Errorf("%x: %x, %d, not %x", other, b, int(e), first)
				}
			}
		}
	}
}

// P10.2: ErrSize, unless both have 56 bytes, one wrong, or the other, or both, and ahead of ErrZero.
func TestX448Sizes(t *testing.T) {
	sizes := []int{0, 1, 2, 28, 54, 55, 56, 57, 58, 64, 65, 112, 114, 56 + 256, 56 + 65536}
	for _, i := range sizes {
		for _, n := range sizes {
			for seed := range uint64(2) {
				k, u := some(i, seed), some(n, seed+2)
				if seed == 0 {
					u = make([]byte, n)
				}
				b, e := X448(k, u)
				want := api.ErrSize
				if i == 56 && n == 56 && seed == 0 {
					want = api.ErrZero
				} else if i == 56 && n == 56 {
					want = api.OK
				}
				if e != want || (b == nil) != (e != api.OK) {
					t.Errorf("%d and %d bytes: %x, %d", i, n, b, int(e))
				}
			}
		}
	}
	good := some(56, 4)
	for _, c := range [][2][]byte{{nil, good}, {good, nil}, {nil, nil}} {
		if b, e := X448(c[0], c[1]); b != nil || e != api.ErrSize {
			t.Errorf("of nil: %x, %d", b, int(e))
		}
	}
}

// P10.2: Public is X448 of 5, ErrSize unless there are 56 bytes.
func TestPublic(t *testing.T) {
	five := append([]byte{5}, make([]byte, 55)...)
	for _, k := range codes() {
		want, e := exchange(t, k, five)
		b, n := Public(k)
		if e != n || !bytes.Equal(b, want) {
			t.Errorf("Public of %x: %x, %d, not %x, %d", k, b, int(n), want, int(e))
		}
	}
	for n := range 200 {
		b, e := Public(some(n, 3))
		if (e == api.OK) != (n == 56) || n != 56 && (b != nil || e != api.ErrSize) {
			t.Errorf("%d bytes: %x, %d", n, b, int(e))
		}
	}
	if b, e := Public(nil); b != nil || e != api.ErrSize {
		t.Error("of nil:", b, int(e))
	}
}

// P10.3: of 4 L, that is clamped, Public is ErrZero: of all secret numbers that are 4 L as they are clamped, and of no others beside it.
func TestPublicZero(t *testing.T) {
	four := new(big.Int).Lsh(order(), 2)
	if four.BitLen() != 448 || four.Cmp(clamped(text(four, 56))) != 0 {
		t.Fatal("4 L is not clamped")
	}
	for low := range int64(4) {
		for _, x := range []*big.Int{less(four, -low), new(big.Int).SetBit(less(four, -low), 447, 0)} {
			k := text(x, 56)
			if b, e := Public(k); b != nil || e != api.ErrZero {
				t.Errorf("Public of %x: %x, %d", k, b, int(e))
			}
		}
	}
	for _, n := range []int64{-8, -4, 4, 8} {
		if b, e := Public(text(less(four, n), 56)); len(b) != 56 || e != api.OK {
			t.Errorf("Public of 4 L less %d: %x, %d", n, b, int(e))
		}
	}
	first, _ := Public(text(less(four, 4), 56))
	second, _ := Public(text(less(four, -4), 56))
	want := manifold(big.NewInt(4), big.NewInt(5))
	if !bytes.Equal(first, text(want, 56)) || !bytes.Equal(second, first) {
		t.Errorf("Public of 4 L less 4, and of it and 4: %x, %x", first, second)
	}
}

// P10.3: what two come to is the same, of the base's u and of any other one, or ErrZero of both.
func TestCommon(t *testing.T) {
	none := 0
	l := codes()
	for i, mine := range l {
		for n, yours := range l[:i+1] {
			u := text(big.NewInt(5), 56)
			if (i+n)%2 == 1 {
				u = some(56, uint64(i*50+n))
			}
			first, e := commonOf(t, mine, yours, u)
			second, other := commonOf(t, yours, mine, u)
			if e != other || !bytes.Equal(first, second) {
				t.Errorf("%x and %x: %x, %d, and %x, %d", mine, yours, first, int(e), second, int(other))
			}
			if e == api.ErrZero {
				none++
			}
		}
	}
	if none < 10 {
		t.Error("ErrZero", none, "times")
	}
}

// commonOf is what one comes to by a secret and the other one's public bytes, of u, noughts, if there are none.
func commonOf(t testing.TB, mine, yours, u []byte) ([]byte, api.Errno) {
	t.Helper()
	public, e := X448(yours, u)
	if e == api.ErrZero {
		public = make([]byte, 56)
	} else if e != api.OK {
		t.Error(int(e))
	}
	return X448(mine, public)
}

// P10.3: of 4 L and any other one's public bytes it is ErrZero.
func TestCommonZero(t *testing.T) {
	four := text(new(big.Int).Lsh(order(), 2), 56)
	for seed := range uint64(20) {
		public, e := Public(some(56, seed))
		if e != api.OK {
			t.Fatal(int(e))
		}
		if b, e := X448(four, public); b != nil || e != api.ErrZero {
			t.Errorf("%x, %d", b, int(e))
		}
	}
}

// P10.2: a number that is clamped by scalar is that of X448, by Ladder.
func TestX448Ladder(t *testing.T) {
	for i, k := range codes() {
		u := some(56, uint64(i))
		secret, _ := scalar.Clamp(k)
		a, _ := field.Of(u)
		want := ladder(t, secret, a)
		if b, e := X448(k, u); field.Zero(want) != (e == api.ErrZero) || e == api.OK && !bytes.Equal(b, field.Bytes(want)) {
			t.Errorf("X448 of %x, %x: %x, %d", k, u, b, int(e))
		}
	}
}

// spare is bytes with others behind their length, and what all of it is.
func spare(b []byte) (cut, all, kept []byte) {
	all = append(slices.Clone(b), some(80, 17)...)
	return all[:len(b)], all, slices.Clone(all)
}

// R2: what is handed in stays as it is, and so does what stands behind it, of errors, too.
func TestKept(t *testing.T) {
	for i, b := range append(codes(), nil, some(55, 1), some(57, 1), make([]byte, 56)) {
		k, all, kept := spare(b)
		u, allU, keptU := spare(some(56, uint64(i)))
		Ladder(k, field.Int(5))
		X448(k, u)
		X448(u, k)
		X448(k, k)
		Public(k)
		if !bytes.Equal(all, kept) || !bytes.Equal(allU, keptU) {
			t.Errorf("bytes like %x were written into", b)
		}
	}
	for _, c := range samples(t) {
		u, x, z := c.a, [2]field.Element{c.a, field.Int(2)}, [2]field.Element{field.Int(3), c.a}
		keptU, keptX, keptZ := u, x, z
		Step(u, x, z)
		Ladder(some(9, 9), u)
		if u != keptU || x != keptX || z != keptZ {
			t.Error("elements were written into")
		}
	}
}

// R2: what is answered is the caller's.
func TestOwn(t *testing.T) {
	k, u := some(56, 3), some(56, 4)
	want, _ := asked(k, u)
	public, _ := asked(k, text(big.NewInt(5), 56))
	for range 3 {
		first, _ := X448(k, u)
		second, _ := X448(k, u)
		third, _ := Public(k)
		fourth, _ := Public(k)
		for _, b := range [][]byte{first, third} {
			clear(b[:cap(b)])
			_ = append(b[:0], bytes.Repeat([]byte{9}, 56)...)
		}
		if !bytes.Equal(second, want) || !bytes.Equal(fourth, public) {
			t.Errorf("answers hang together: %x, %x", second, fourth)
		}
	}
	secret, other := slices.Clone(k), slices.Clone(u)
	b, _ := X448(secret, other)
	clear(secret)
	clear(other)
	if !bytes.Equal(b, want) {
		t.Error("an answer hangs on what was handed in")
	}
}

// R3: what is answered hangs on the arguments alone, not on calls ahead, of errors, too, nor on who else calls.
func TestOneState(t *testing.T) {
	l := codes()
	want := make([][]byte, len(l))
	for i, k := range l {
		want[i], _ = asked(k, l[(i+5)%len(l)])
	}
	var wait sync.WaitGroup
	for n := range 4 {
		wait.Go(func() {
			for i := range l {
				at := i * (2*n + 1) % len(l)
				k, u := l[at], l[(at+5)%len(l)]
				if b, e := X448(k, u[:n]); b != nil || e != api.ErrSize {
					t.Error(int(e))
				}
				if _, e := Ladder(make([]byte, 65+n), field.Int(5)); e != api.ErrSize {
					t.Error(int(e))
				}
				if b, _ := X448(k, u); !bytes.Equal(b, want[at]) {
					t.Errorf("X448 of %x, %x: %x", k, u, b)
				}
			}
		})
	}
	wait.Wait()
}

// P10.1, P10.2: any bytes.
func FuzzLadder(f *testing.F) {
	f.Add([]byte{}, make([]byte, 56))
	f.Add([]byte{1}, text(big.NewInt(5), 56))
	f.Add(make([]byte, 64), text(modulus(), 56))
	f.Add(make([]byte, 65), some(56, 1))
	f.Add(some(56, 2), some(56, 3))
	f.Add(text(new(big.Int).Lsh(order(), 2), 56), text(big.NewInt(5), 56))
	f.Add(some(56, 4), some(55, 5))
	f.Fuzz(func(t *testing.T, k, u []byte) {
		exchange(t, k, u)
		whole := append(slices.Clone(u), make([]byte, 56)...)[:56]
		exchange(t, append(slices.Clone(k), make([]byte, 56)...)[:56], whole)
		a, e := Ladder(k, of(t, number(whole)))
		if len(k) > 64 {
			if e != api.ErrSize {
				t.Error(int(e))
			}
			return
		}
		if e != api.OK {
			t.Error(int(e))
		}
		same(t, "Ladder", a, climbed(number(k), 8*len(k), left(number(whole))))
	})
}

func BenchmarkStep(b *testing.B) {
	u, x, z := field.Int(5), [2]field.Element{field.Int(7), field.Int(8)}, [2]field.Element{field.Int(9), field.Int(10)}
	for b.Loop() {
		Step(u, x, z)
	}
}

func BenchmarkX448(b *testing.B) {
	k, u := some(56, 1), some(56, 2)
	for b.Loop() {
		X448(k, u)
	}
}
