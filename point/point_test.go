package point

import (
	"bytes"
	"encoding/hex"
	"fmt"
	"math"
	"math/big"
	"slices"
	"sync"
	"testing"

	"chicory/api"
	"chicory/field"
	"chicory/scalar"
	"chicory/shake"
)

// modulus is p by an other's hand.
func modulus() *big.Int {
	p := power(448)
	return p.Sub(p, power(224)).Sub(p, big.NewInt(1))
}

// order is L by an other's hand.
func order() *big.Int {
	l, _ := new(big.Int).SetString("13818066809895115352007386748515426880336692474882178609894547503885", 10)
	return l.Sub(power(446), l)
}

// power is 2^k.
func power(k uint) *big.Int { return new(big.Int).Lsh(big.NewInt(1), k) }

// less is x - n.
func less(x *big.Int, n int64) *big.Int { return new(big.Int).Sub(x, big.NewInt(n)) }

// left is what x leaves, divided by p, x being below 0, too.
func left(x *big.Int) *big.Int { return new(big.Int).Mod(x, modulus()) }

// times is all together multiplied, modulo p.
func times(l ...*big.Int) *big.Int {
	out := big.NewInt(1)
	for _, x := range l {
		out = left(out.Mul(out, x))
	}
	return out
}

// plus is x and y together, modulo p.
func plus(x, y *big.Int) *big.Int { return left(new(big.Int).Add(x, y)) }

// minus is x less y, modulo p.
func minus(x, y *big.Int) *big.Int { return left(new(big.Int).Sub(x, y)) }

// through is x divided by y, modulo p.
func through(x, y *big.Int) *big.Int { return times(x, new(big.Int).ModInverse(y, modulus())) }

// text is a number's bytes, so many or more, the lowest one first.
func text(x *big.Int, size int) []byte {
	b := x.FillBytes(make([]byte, max(size, (x.BitLen()+7)/8)))
	slices.Reverse(b)
	return b
}

// number is the number of bytes, the lowest one first.
func number(b []byte) *big.Int {
	b = slices.Clone(b)
	slices.Reverse(b)
	return new(big.Int).SetBytes(b)
}

// some is n bytes that are not much like each other.
func some(n int, seed uint64) []byte {
	b := make([]byte, n)
	for i := range b {
		seed = seed*6364136223846793005 + 1442695040888963407
		b[i] = byte(seed >> 56)
	}
	return b
}

// of is the element of a number below 2^448, whose limbs stand where the number does, at p or more, too.
func of(t testing.TB, x *big.Int) field.Element {
	t.Helper()
	a, e := field.Of(text(x, api.Field))
	if e != api.OK {
		t.Fatal(int(e))
	}
	return a
}

// spot is two numbers from 0 to p - 1.
type spot struct{ x, y *big.Int }

// at is the spot of two numbers.
func at(x, y int64) spot { return spot{left(big.NewInt(x)), left(big.NewInt(y))} }

// bent is d x x y y.
func (s spot) bent() *big.Int { return times(big.NewInt(-39081), s.x, s.x, s.y, s.y) }

// is tells whether a spot is a point's, by the chapter's words.
func (s spot) is() bool {
	return plus(times(s.x, s.x), times(s.y, s.y)).Cmp(plus(big.NewInt(1), s.bent())) == 0
}

// and is the sum, by the chapter's words.
func (s spot) and(o spot) spot {
	c := times(big.NewInt(-39081), s.x, o.x, s.y, o.y)
	one := big.NewInt(1)
	return spot{
		through(plus(times(s.x, o.y), times(o.x, s.y)), plus(one, c)),
		through(minus(times(s.y, o.y), times(s.x, o.x)), minus(one, c)),
	}
}

// neg is 0 less x, y.
func (s spot) neg() spot { return spot{minus(new(big.Int), s.x), s.y} }

// mult is so many times a spot.
func (s spot) mult(k *big.Int) spot {
	out := at(0, 1)
	for i := k.BitLen() - 1; i >= 0; i-- {
		out = out.and(out)
		if k.Bit(i) == 1 {
			out = out.and(s)
		}
	}
	return out
}

// like tells whether two spots are the same.
func (s spot) like(o spot) bool { return s.x.Cmp(o.x) == 0 && s.y.Cmp(o.y) == 0 }

// base is the chapter's base.
func base() spot {
	x, _ := new(big.Int).SetString("4f1970c66bed0ded221d15a622bf36da9e146570470f1767ea6de324a3d3a46412ae1af72ab66511433b80e18b00938e2626a82bc70cc05e", 16)
	y, _ := new(big.Int).SetString("693f46716eb6bc248876203756c9c7624bea73736ca3984087789c1e05a0c2d73ad3ff1ce67c39c4fdbd132c4ed7c8ad9808795bf230fa14", 16)
	return spot{x, y}
}

// quarters are the points of which four times is the identity.
func quarters() []spot { return []spot{at(0, 1), at(1, 0), at(0, -1), at(-1, 0)} }

// reach is a spot's point, by Of.
func reach(t testing.TB, s spot) Point {
	t.Helper()
	p, e := Of(of(t, s.x), of(t, s.y))
	if e != api.OK {
		t.Fatalf("%x, %x: %d", s.x, s.y, int(e))
	}
	return p
}

// far is a spot's point, by Of, of elements that stand at p or more, where there is room for it.
func far(t testing.TB, s spot) Point {
	t.Helper()
	up := func(x *big.Int) field.Element {
		if y := new(big.Int).Add(x, modulus()); y.BitLen() <= 448 {
			return of(t, y)
		}
		top := of(t, less(power(448), 1))
		return field.Sub(field.Add(of(t, x), top), top)
	}
	p, e := Of(up(s.x), up(s.y))
	if e != api.OK {
		t.Fatalf("%x, %x: %d", s.x, s.y, int(e))
	}
	return p
}

// same holds a point against a spot.
func same(t testing.TB, what string, p Point, want spot) {
	t.Helper()
	x, y := Affine(p)
	if !bytes.Equal(field.Bytes(x), text(want.x, api.Field)) || !bytes.Equal(field.Bytes(y), text(want.y, api.Field)) {
		t.Errorf("%s: %x, %x, not %x, %x", what, field.Bytes(x), field.Bytes(y), text(want.x, api.Field), text(want.y, api.Field))
	}
	if field.Zero(p.z) {
		t.Errorf("%s: z is 0", what)
	}
}

// mult is so many times a point, by the package's calls.
func mult(k *big.Int, p Point) Point {
	out := Identity()
	for i := k.BitLen() - 1; i >= 0; i-- {
		out = Double(out)
		if k.Bit(i) == 1 {
			out = Add(out, p)
		}
	}
	return out
}

// chance are n points of no one's choice: of y from a seed on, those that have an x.
func chance(n int, seed uint64) []spot {
	one := big.NewInt(1)
	var out []spot
	for ; len(out) < n; seed++ {
		y := left(number(some(api.Field, seed)))
		yy := times(y, y)
		xx := through(minus(one, yy), minus(one, times(big.NewInt(-39081), yy)))
		if x := new(big.Int).ModSqrt(xx, modulus()); x != nil {
			out = append(out, spot{x, y}, spot{x, y}.neg())
		}
	}
	return out[:n]
}

// spots are points at which sums begin and end, and others.
func spots() []spot {
	l := quarters()
	b := base()
	all := b
	for range 6 {
		l = append(l, all, all.neg(), spot{all.y, all.x}, spot{all.x, minus(new(big.Int), all.y)})
		all = all.and(b)
	}
	for i, k := range []*big.Int{power(200), less(order(), 1), new(big.Int).Rsh(order(), 1), number(some(55, 5)), less(order(), -2)} {
		s := b.mult(k)
		l = append(l, s, s.and(quarters()[i%3+1]))
	}
	return append(l, chance(8, 40)...)
}

// sample is a point, and where it is.
type sample struct {
	p Point
	s spot
}

// samples are points of all these spots, each made on an other way, the first ones on all ways.
func samples(t testing.TB) []sample {
	t.Helper()
	var l []sample
	b := Base()
	for i, s := range spots() {
		p := reach(t, s)
		ways := []Point{
			p, far(t, s), Add(p, Identity()), Add(Identity(), far(t, s)), Neg(Neg(p)), Add(Add(p, b), Neg(b)),
			Add(Double(b), Add(p, Neg(Add(b, b)))), Neg(Add(Four(b), Add(Neg(p), Neg(Four(b))))), Select(1, b, p),
		}
		for k, w := range ways {
			if i < 8 || k == i%len(ways) || k == (i+4)%len(ways) {
				l = append(l, sample{w, s})
			}
		}
	}
	return append(l, sample{Identity(), at(0, 1)}, sample{b, base()})
}

// few are some of the samples, of all kinds.
func few(t testing.TB, apart int) []sample {
	t.Helper()
	var out []sample
	for i, c := range samples(t) {
		if i%apart == 0 {
			out = append(out, c)
		}
	}
	return out
}

// P8.1, P8.2: the chapter's example.
func TestExamples(t *testing.T) {
	p, e := Of(field.Int(1), field.Int(0))
	if e != api.OK {
		t.Error(int(e))
	}
	same(t, "1, 0", p, at(1, 0))
	same(t, "Double of it", Double(p), at(0, -1))
	same(t, "Four of it", Four(p), at(0, 1))
	if !Equal(Four(p), Identity()) || Equal(Double(p), Identity()) {
		t.Error("Four of it is the identity, and Double of it is not")
	}
}

// P8.1: Identity and Base are these points of the chapter, and Of takes what Affine answers of them.
func TestIdentityAndBase(t *testing.T) {
	same(t, "Identity", Identity(), at(0, 1))
	same(t, "Base", Base(), base())
	for _, p := range []Point{Identity(), Base()} {
		q, e := Of(Affine(p))
		if e != api.OK || !Equal(p, q) {
			t.Error(int(e))
		}
	}
	if !base().is() || !at(0, 1).is() {
		t.Error("the test's own base, or identity, is no point")
	}
}

// P8.1: the base's y divided by its x is a root of 5, which is the u of the base of RFC 7748.
func TestBaseIsOfFive(t *testing.T) {
	x, y := Affine(Base())
	if !field.Equal(field.Square(y), field.Times(field.Square(x), 5)) {
		t.Error("y y is not 5 x x")
	}
}

// P8.1, P8.2: the public key of RFC 8032's first secret key is a multiple of the base.
func TestPublicKey(t *testing.T) {
	secret, _ := hex.DecodeString("6c82a562cb808d10d632be89c8513ebf6c929f34ddfa8c9f63c9960ef6e348a3528c8a3fcc2f044e39a3fc5b94492f8f032e7549a20098f95b")
	public, _ := hex.DecodeString("5fd7449b59b461fd2ce787ec616ad46a1da1342485a70e1f8a0ea75d80e96778edf124769b46c7061bd6783df1e50f6cd1fa1abeafe8256180")
	digest, _ := shake.Sum(2*api.Point, secret)
	k, e := scalar.Clamp(digest[:api.Point])
	if e != api.OK {
		t.Fatal(int(e))
	}
	x, y := Affine(mult(number(k), Base()))
	if !bytes.Equal(field.Bytes(y), public[:api.Field]) || field.Bytes(x)[0]&1 != public[api.Field]>>7 {
		t.Errorf("%x, %x", field.Bytes(x), field.Bytes(y))
	}
}

// P8.1: Of is the point of its elements, wherever these stand, and however they were made.
func TestOf(t *testing.T) {
	for _, s := range append(spots(), chance(40, 4000)...) {
		same(t, "Of", reach(t, s), s)
		same(t, "Of elements at p or more", far(t, s), s)
		made := Add(Add(reach(t, s), Base()), Neg(Base()))
		p, e := Of(Affine(made))
		if e != api.OK {
			t.Errorf("%x, %x: %d", s.x, s.y, int(e))
		}
		same(t, "Of what Affine answers", p, s)
	}
	for _, zero := range []field.Element{{}, field.Int(0), of(t, modulus()), field.Sub(field.Int(7), field.Int(7)), field.Neg(field.Element{})} {
		for _, one := range []field.Element{field.Int(1), of(t, less(modulus(), -1)), field.Neg(field.Int(-1)), field.Square(field.Int(-1))} {
			for i, e := range [][2]field.Element{{zero, one}, {one, zero}, {zero, field.Neg(one)}, {field.Neg(one), zero}} {
				p, n := Of(e[0], e[1])
				if n != api.OK {
					t.Error(i, int(n))
				}
				same(t, "Of 0 and 1", p, quarters()[i])
			}
			for _, e := range [][2]field.Element{{zero, zero}, {one, one}, {one, field.Neg(one)}, {field.Neg(one), one}, {field.Neg(one), field.Neg(one)}} {
				if _, n := Of(e[0], e[1]); n != api.ErrPoint {
					t.Error(int(n))
				}
			}
		}
	}
}

// asked holds Of's error against what the chapter says.
func asked(t *testing.T, x, y *big.Int) {
	t.Helper()
	want := api.OK
	if !(spot{left(x), left(y)}).is() {
		want = api.ErrPoint
	}
	if _, e := Of(of(t, x), of(t, y)); e != want {
		t.Errorf("%x, %x: %d", x, y, int(e))
	}
}

// P8.1: Of all pairs of numbers at which elements, and points' elements, begin and end.
func TestOfPairs(t *testing.T) {
	p := modulus()
	l := []*big.Int{
		p, less(p, -1), less(p, -2), less(power(448), 1), less(power(448), 2), power(447), power(224), less(power(224), 1),
		new(big.Int).Rsh(p, 1), less(new(big.Int).Rsh(p, 1), -1), big.NewInt(39081), less(p, 39081), big.NewInt(39082), big.NewInt(39080),
		base().x, base().y, minus(new(big.Int), base().x), minus(new(big.Int), base().y), plus(base().x, base().y),
	}
	for n := range int64(8) {
		l = append(l, big.NewInt(n), less(p, n+1))
	}
	points := 0
	for _, x := range l {
		for _, y := range l {
			asked(t, x, y)
			if (spot{left(x), left(y)}).is() {
				points++
			}
		}
	}
	if points < 16 || points > 60 {
		t.Error("points among the pairs:", points)
	}
}

// P8.1: Of is ErrPoint, if x alone, y alone, or both, are not the point's.
func TestOfNone(t *testing.T) {
	l := spots()
	for i, s := range l {
		o := l[(i+5)%len(l)]
		for n := int64(-2); n < 3; n++ {
			asked(t, left(less(s.x, n)), s.y)
			asked(t, s.x, left(less(s.y, n)))
			asked(t, left(less(s.x, n)), left(less(s.y, n)))
			asked(t, times(s.x, left(big.NewInt(n))), s.y)
			asked(t, s.x, times(s.y, left(big.NewInt(n))))
			asked(t, times(s.x, left(big.NewInt(n))), times(s.y, left(big.NewInt(n))))
		}
		asked(t, s.x, o.y)
		asked(t, o.x, s.y)
		asked(t, s.x, s.x)
		asked(t, s.y, s.y)
		asked(t, times(s.x, s.x), times(s.y, s.y))
	}
	if (spot{plus(base().x, big.NewInt(1)), base().y}).is() || (spot{base().x, plus(base().y, big.NewInt(1))}).is() {
		t.Error("these are points")
	}
}

// P8.1: Of is ErrPoint, if a bit of x, or of y, is turned.
func TestOfBits(t *testing.T) {
	for _, s := range append(chance(1, 7), base(), at(1, 0), at(0, -1)) {
		for k := range 448 {
			turned := func(x *big.Int) *big.Int { return new(big.Int).SetBit(x, k, 1-x.Bit(k)) }
			asked(t, turned(s.x), s.y)
			asked(t, s.x, turned(s.y))
		}
	}
}

// P8.1: Of is ErrPoint of the points of curves that have an other d.
func TestOfOtherCurves(t *testing.T) {
	one := big.NewInt(1)
	for _, d := range []int64{-39080, -39082, 39081, 39082, 39080, 0, 1, -1, 2, 39081 * 39081, -3908} {
		for n := int64(2); n < 30; n++ {
			yy := big.NewInt(n * n)
			x := new(big.Int).ModSqrt(through(minus(one, yy), minus(one, times(big.NewInt(d), yy))), modulus())
			if x == nil {
				continue
			}
			if _, e := Of(of(t, x), field.Int(int(n))); e != api.ErrPoint {
				t.Errorf("d %d, y %d: %d", d, n, int(e))
			}
			if _, e := Of(field.Int(int(-n)), of(t, x)); e != api.ErrPoint {
				t.Errorf("d %d, x %d: %d", d, -n, int(e))
			}
		}
	}
}

// P8.1: Affine of points made on all ways.
func TestAffine(t *testing.T) {
	for _, c := range samples(t) {
		same(t, "Affine", c.p, c.s)
	}
	p, s := Base(), base()
	for range 300 {
		same(t, "Affine", p, s)
		p, s = Add(p, Base()), s.and(base())
	}
}

// P8.2, P8.3: Add of all pairs is the chapter's sum, and a point, which Of takes.
func TestAdd(t *testing.T) {
	l := samples(t)
	for i, c := range l {
		for k, o := range l {
			if (i+k)%3 != 0 && i != k && i > 20 && k > 20 {
				continue
			}
			sum, want := Add(c.p, o.p), c.s.and(o.s)
			same(t, "Add", sum, want)
			if _, e := Of(Affine(sum)); e != api.OK {
				t.Errorf("%x, %x is no point", want.x, want.y)
			}
		}
	}
}

// P8.2: Add of a point and the identity, of it and Neg of it, of it and itself, of it and what has its x, or its y.
func TestAddEdges(t *testing.T) {
	for _, c := range samples(t) {
		same(t, "and the identity", Add(c.p, Identity()), c.s)
		same(t, "the identity, and it", Add(Identity(), c.p), c.s)
		same(t, "and Neg of it", Add(c.p, Neg(c.p)), at(0, 1))
		same(t, "Neg of it, and it", Add(Neg(c.p), c.p), at(0, 1))
		same(t, "and itself", Add(c.p, c.p), c.s.and(c.s))
		same(t, "and itself, made anew", Add(c.p, far(t, c.s)), c.s.and(c.s))
		for _, q := range quarters() {
			same(t, "and 1, 0 some times", Add(c.p, reach(t, q)), c.s.and(q))
		}
		mirror := spot{c.s.x, minus(new(big.Int), c.s.y)} // it has x alone; Neg has y alone
		same(t, "and what has its x", Add(c.p, reach(t, mirror)), c.s.and(mirror))
		same(t, "and what has its x and y", Add(c.p, reach(t, spot{c.s.y, c.s.x})), at(1, 0))
	}
}

// P8.2, P8.3: Double, Neg and Four, by the chapter's words; they are points.
func TestOfOne(t *testing.T) {
	for _, c := range append(samples(t), sample{Four(Base()), base().mult(big.NewInt(4))}) {
		two := c.s.and(c.s)
		same(t, "Double", Double(c.p), two)
		same(t, "Neg", Neg(c.p), c.s.neg())
		same(t, "Four", Four(c.p), two.and(two))
		for _, p := range []Point{Double(c.p), Neg(c.p), Four(c.p)} {
			if _, e := Of(Affine(p)); e != api.OK {
				t.Errorf("of %x, %x: no point", c.s.x, c.s.y)
			}
		}
		if !Equal(Double(c.p), Add(c.p, c.p)) || !Equal(Four(c.p), Add(c.p, Add(c.p, Add(c.p, c.p)))) {
			t.Errorf("of %x, %x: not as Add", c.s.x, c.s.y)
		}
	}
}

// P8.2: Equal of all pairs.
func TestEqual(t *testing.T) {
	l := samples(t)
	for _, c := range l {
		for _, o := range l {
			if Equal(c.p, o.p) != c.s.like(o.s) {
				t.Errorf("%x, %x and %x, %x", c.s.x, c.s.y, o.s.x, o.s.y)
			}
		}
	}
}

// P8.2: Equal of points that are the same, but were made on other ways, and of those of which x alone, or y alone, is.
func TestEqualEdges(t *testing.T) {
	for i, c := range samples(t) {
		p := Add(Base(), Add(c.p, Neg(Base())))
		if !Equal(p, c.p) || !Equal(c.p, p) || !Equal(p, p) || !Equal(p, reach(t, c.s)) || !Equal(far(t, c.s), p) {
			t.Error(i, "is not the same")
		}
		zero := new(big.Int)
		for what, s := range map[string]spot{
			"x alone": {c.s.x, minus(zero, c.s.y)}, "y alone": {minus(zero, c.s.x), c.s.y},
			"neither": {minus(zero, c.s.x), minus(zero, c.s.y)}, "the other way": {c.s.y, c.s.x},
		} {
			for _, q := range []Point{reach(t, s), Add(Add(reach(t, s), Base()), Neg(Base()))} {
				if Equal(p, q) != c.s.like(s) || Equal(q, p) != c.s.like(s) {
					t.Errorf("%s: %x, %x", what, c.s.x, c.s.y)
				}
			}
		}
	}
}

// choices are bits, and whether they pick the other one.
var choices = []struct {
	bit int
	is  bool
}{
	{0, false}, {1, true}, {2, false}, {3, true}, {-1, true}, {-2, false}, {-3, true}, {math.MaxInt, true}, {math.MinInt, false},
	{math.MaxInt - 1, false}, {math.MinInt + 1, true}, {256, false}, {257, true}, {1 << 31, false}, {1<<31 + 1, true}, {-1 << 31, false}, {1 << 16, false},
}

// P8.2: Select by all bits, of points that are the same, too.
func TestSelect(t *testing.T) {
	l := few(t, 2)
	for i, c := range l {
		for k, o := range []sample{l[(i+1)%len(l)], l[(i*7+3)%len(l)], c, {Identity(), at(0, 1)}, {Neg(c.p), c.s.neg()}} {
			for _, b := range choices {
				want := c.s
				if b.is {
					want = o.s
				}
				if k < 2 || b.bit < 4 {
					same(t, fmt.Sprint("Select of ", b.bit), Select(b.bit, c.p, o.p), want)
				}
				if p := Select(b.bit, c.p, o.p); !b.is && !Equal(p, c.p) || b.is && !Equal(p, o.p) {
					t.Error("Select of", b.bit)
				}
			}
		}
	}
}

// P8.3: sums go either way, in any order; the identity turns nothing.
func TestLaws(t *testing.T) {
	l := few(t, 4)
	for _, a := range l {
		for i, b := range l {
			if !Equal(Add(a.p, b.p), Add(b.p, a.p)) {
				t.Errorf("%x and %x: not the other way", a.s.x, b.s.x)
			}
			if !Equal(Add(Add(a.p, b.p), Neg(b.p)), a.p) || !Equal(Neg(Add(a.p, b.p)), Add(Neg(b.p), Neg(a.p))) {
				t.Errorf("%x and %x: Neg", a.s.x, b.s.x)
			}
			if !Equal(Double(Add(a.p, b.p)), Add(Double(a.p), Double(b.p))) || !Equal(Four(Add(a.p, b.p)), Add(Four(b.p), Four(a.p))) {
				t.Errorf("%x and %x: Double and Four", a.s.x, b.s.x)
			}
			for k, c := range l {
				if (i+k)%2 == 0 && !Equal(Add(a.p, Add(b.p, c.p)), Add(Add(a.p, b.p), c.p)) {
					t.Errorf("%x, %x and %x: in an other order", a.s.x, b.s.x, c.s.x)
				}
			}
		}
	}
	for _, c := range samples(t) {
		if !Equal(Add(c.p, Identity()), c.p) || !Equal(Add(c.p, Neg(c.p)), Identity()) || !Equal(Neg(Neg(c.p)), c.p) {
			t.Errorf("%x: the identity", c.s.x)
		}
	}
	if !Equal(Neg(Identity()), Identity()) || !Equal(Double(Identity()), Identity()) || !Equal(Four(Identity()), Identity()) {
		t.Error("of the identity")
	}
}

// P8.3: all that are sums of many are the same, whatever the order.
func TestOrders(t *testing.T) {
	l := samples(t)
	up, down, odd := Identity(), Identity(), Identity()
	want := at(0, 1)
	for i := range l {
		up, down = Add(up, l[i].p), Add(l[len(l)-1-i].p, down)
		want = want.and(l[i].s)
		if i%2 == 0 {
			odd = Add(odd, l[i].p)
		} else {
			odd = Add(l[i].p, odd)
		}
	}
	same(t, "upward", up, want)
	same(t, "downward", down, want)
	same(t, "from both ends", odd, want)
}

// P8.3: L is prime. So, as L times the base is the identity and the base is not, no fewer times are; nor are those that are tried here.
func TestOrder(t *testing.T) {
	l := order()
	if !l.ProbablyPrime(20) || !bytes.Equal(scalar.L(), text(l, api.Point)) {
		t.Error("L")
	}
	if !Equal(mult(l, Base()), Identity()) || Equal(Base(), Identity()) {
		t.Error("L times the base")
	}
	p := Base()
	for n := 1; n <= 50000; n++ {
		if Equal(p, Identity()) {
			t.Fatal(n, "times the base is the identity")
		}
		p = Add(p, Base())
	}
	var fewer []*big.Int
	for n := int64(1); n < 30; n++ {
		fewer = append(fewer, less(l, n), new(big.Int).Div(l, big.NewInt(n+1)), less(new(big.Int).Div(l, big.NewInt(n+1)), -1))
	}
	for k := range uint(446) {
		fewer = append(fewer, power(k), new(big.Int).Sub(l, power(k)), new(big.Int).Mod(number(some(56, uint64(k))), l))
	}
	for _, k := range fewer {
		if k.Sign() <= 0 || k.Cmp(l) >= 0 {
			t.Fatal("not fewer")
		}
		if Equal(mult(k, Base()), Identity()) {
			t.Errorf("%d times the base is the identity", k)
		}
	}
}

// P8.3: L times, and those about it, by the other's hand, too.
func TestAboutOrder(t *testing.T) {
	for n := int64(-3); n < 4; n++ {
		k := less(order(), -n)
		if n >= 0 {
			same(t, "L and more", mult(k, Base()), base().mult(big.NewInt(n)))
		} else {
			same(t, "L and less", mult(k, Base()), base().mult(big.NewInt(-n)).neg())
		}
	}
	for _, n := range []int64{2, 3, 4, 1000} {
		same(t, "L some times", mult(new(big.Int).Mul(order(), big.NewInt(n)), Base()), at(0, 1))
	}
}

// P8.3: 4 L times any point is the identity; L times it, a point of which four times is. All four of these come.
func TestAny(t *testing.T) {
	l := order()
	four := new(big.Int).Lsh(l, 2)
	came := map[string]int{}
	for _, s := range append(spots(), chance(120, 90)...) {
		p := reach(t, s)
		if !Equal(mult(four, p), Identity()) || !Equal(mult(l, Four(p)), Identity()) || !Equal(Four(mult(l, p)), Identity()) {
			t.Errorf("4 L times %x, %x", s.x, s.y)
		}
		x, y := Affine(mult(l, p))
		came[fmt.Sprint(field.Bytes(x), field.Bytes(y))]++
	}
	for _, q := range quarters() {
		if came[fmt.Sprint(text(q.x, api.Field), text(q.y, api.Field))] == 0 {
			t.Errorf("%x, %x did not come", q.x, q.y)
		}
	}
	if len(came) != 4 {
		t.Error(len(came), "came")
	}
}

// P8.3: what divides in a sum is never 0: d is no square, and -1 is none.
func TestNoSquares(t *testing.T) {
	for _, n := range []int64{d, -1} {
		if big.Jacobi(left(big.NewInt(n)), modulus()) != -1 {
			t.Error(n, "is a square")
		}
	}
}

// P8.2: so many times a point, by the package and by the other's hand.
func TestMultiples(t *testing.T) {
	for i, s := range append(chance(6, 11), base(), at(1, 0), base().and(at(-1, 0))) {
		k := number(some(20+i, uint64(i)))
		same(t, "so many times", mult(k, reach(t, s)), s.mult(k))
	}
}

// P8.2: long rows of calls, each of them of what the ones ahead answered.
func TestLongRows(t *testing.T) {
	for seed := range uint64(4) {
		p := reach(t, chance(1, seed)[0])
		q := Base()
		sp, sq := chance(1, seed)[0], base()
		for i, b := range some(700, seed) {
			switch b % 8 {
			case 0:
				p, sp = Double(p), sp.and(sp)
			case 1:
				p, sp = Neg(p), sp.neg()
			case 2:
				p, sp = Four(p), sp.and(sp).and(sp.and(sp))
			case 3:
				p, sp = Add(p, reach(t, quarters()[b>>4%4])), sp.and(quarters()[b>>4%4])
			case 4:
				p, q, sp, sq = q, p, sq, sp
			case 5:
				p, q = Select(int(b>>3), p, q), Select(int(b>>3), q, p)
				if b>>3&1 == 1 {
					sp, sq = sq, sp
				}
			default:
				p, sp = Add(p, q), sp.and(sq)
			}
			if i%10 == 0 {
				same(t, "p", p, sp)
				same(t, "q", q, sq)
			}
		}
		same(t, "p", p, sp)
		same(t, "q", q, sq)
	}
}

// P8.2, P8.3: many doublings, and many sums of what came ahead, stay points.
func TestManyDoublings(t *testing.T) {
	p, s := Base(), base()
	for range 1000 {
		p, s = Double(p), s.and(s)
	}
	same(t, "Double, 1000 times", p, s)
	p, s = Base(), base()
	q, o := Double(p), s.and(s)
	for range 1000 {
		p, q = q, Add(p, q)
		s, o = o, s.and(o)
	}
	same(t, "each one both ahead", q, o)
}

// R2: what is handed in stays as it is, its elements, too; what is answered is the caller's.
func TestKept(t *testing.T) {
	l := few(t, 3)
	for i, c := range l {
		o := l[(i+1)%len(l)]
		p, q := c.p, o.p
		Add(p, q)
		Double(p)
		Neg(p)
		Equal(p, q)
		Four(p)
		Select(1, p, q)
		Affine(p)
		if p != c.p || q != o.p {
			t.Error("a point that was handed in is an other one")
		}
		x, y := of(t, c.s.x), of(t, c.s.y)
		a, b := x, y
		r, _ := Of(x, y)
		if x != a || y != b {
			t.Error("an element that was handed in is an other one")
		}
		x, y = field.Int(3), field.Int(5)
		same(t, "Of, when its elements are others", r, c.s)
		x, y = Affine(r)
		x, y = field.Neg(x), field.Neg(y)
		same(t, "Affine, when its elements are others", r, c.s)
	}
	b, n := Base(), Identity()
	b, n = n, b
	if !Equal(b, Identity()) || !Equal(n, Base()) {
		t.Error("Base and Identity hang on what was done with them")
	}
}

// all is what calls answer of two points.
func all(p, q Point) [7]Point {
	x, y := Affine(p)
	o, _ := Of(x, y)
	return [7]Point{Add(p, q), Double(p), Neg(p), Four(p), Select(0, p, q), Select(1, p, q), o}
}

// R3: what is answered hangs on the arguments alone, not on calls ahead, of errors, too, nor on who else calls.
func TestOneState(t *testing.T) {
	l := few(t, 4)
	want := make([][7]Point, len(l))
	for i, c := range l {
		want[i] = all(c.p, l[(i+1)%len(l)].p)
		if _, e := Of(field.Int(i), field.Int(2)); e != api.ErrPoint {
			t.Error(int(e))
		}
	}
	var wait sync.WaitGroup
	for range 4 {
		wait.Go(func() {
			for i := len(l) - 1; i >= 0; i-- {
				if all(l[i].p, l[(i+1)%len(l)].p) != want[i] || Base() != Base() || Identity() != Identity() {
					t.Error("an other answer")
				}
			}
		})
	}
	wait.Wait()
}

// P8.1: digits are read each at its place.
func TestTold(t *testing.T) {
	for _, s := range []string{"", "0", "1", "9", "a", "f", "10", "a0", "0f", "123456789abcdef", "fedcba9876543210", "00ff", baseX, baseY} {
		want, _ := new(big.Int).SetString("0"+s, 16)
		if b := field.Bytes(told(s)); !bytes.Equal(b, text(want, api.Field)) {
			t.Errorf("%q: %x", s, b)
		}
	}
	for i := range 112 {
		for _, c := range "123456789abcde" {
			s := []byte(fmt.Sprintf("%0112d", 0))
			s[i] = byte(c)
			want, _ := new(big.Int).SetString(string(s), 16)
			if b := field.Bytes(told(string(s))); !bytes.Equal(b, text(want, api.Field)) {
				t.Errorf("%q: %x", s, b)
			}
		}
	}
}

// P8.1, P8.2: any row of calls answers what the other's hand does.
func FuzzCalls(f *testing.F) {
	f.Add([]byte{}, []byte{1})
	f.Add([]byte{0, 1, 2, 3, 4, 5, 6, 7}, []byte{2, 255})
	f.Add([]byte{6, 7, 6, 0, 1, 13, 5, 12, 2, 3, 19, 35, 51, 6}, []byte{9, 9, 9})
	f.Add(some(20, 1), some(56, 2))
	f.Fuzz(func(t *testing.T, calls, y []byte) {
		sp := chance(1, number(y[:min(len(y), 8)]).Uint64())[0]
		p, q, sq := reach(t, sp), Base(), base()
		x := new(big.Int).Mod(number(y), power(448))
		want := api.OK
		if !(spot{left(x), sp.y}).is() {
			want = api.ErrPoint
		}
		if _, e := Of(of(t, x), of(t, sp.y)); e != want {
			t.Fatal(int(e))
		}
		for _, b := range calls[:min(len(calls), 60)] {
			switch b % 8 {
			case 0:
				p, sp = Double(p), sp.and(sp)
			case 1:
				p, sp = Neg(p), sp.neg()
			case 2:
				p, sp = Four(p), sp.and(sp).and(sp.and(sp))
			case 3:
				p, sp = Add(p, reach(t, quarters()[b>>4%4])), sp.and(quarters()[b>>4%4])
			case 4:
				p, q, sp, sq = q, p, sq, sp
			case 5:
				p, q = Select(int(b>>3), p, q), Select(int(b>>3), q, p)
				if b>>3&1 == 1 {
					sp, sq = sq, sp
				}
			default:
				p, sp = Add(q, p), sq.and(sp)
			}
			if Equal(p, q) != sp.like(sq) {
				t.Fatal("Equal")
			}
		}
		same(t, "p", p, sp)
		same(t, "q", q, sq)
	})
}

func BenchmarkBase(b *testing.B) {
	for b.Loop() {
		Base()
	}
}

func BenchmarkOf(b *testing.B) {
	x, y := Affine(Base())
	for b.Loop() {
		Of(x, y)
	}
}

func BenchmarkAffine(b *testing.B) {
	p := Double(Base())
	for b.Loop() {
		Affine(p)
	}
}

func BenchmarkAdd(b *testing.B) {
	p, q := Double(Base()), Four(Base())
	for b.Loop() {
		Add(p, q)
	}
}

func BenchmarkDouble(b *testing.B) {
	p := Four(Base())
	for b.Loop() {
		Double(p)
	}
}

func BenchmarkEqual(b *testing.B) {
	p, q := Double(Base()), Four(Base())
	for b.Loop() {
		Equal(p, q)
	}
}

func BenchmarkSelect(b *testing.B) {
	p, q := Double(Base()), Four(Base())
	for b.Loop() {
		Select(1, p, q)
	}
}
