package twist

import (
	"bytes"
	"fmt"
	"math/big"
	"slices"
	"sync"
	"testing"

	"chicory/api"
	"chicory/field"
	"chicory/point"
)

// modulus is p by an other's hand. It is made once, and nobody writes into it.
var modulus = sync.OnceValue(func() *big.Int {
	p := power(448)
	return p.Sub(p, power(224)).Sub(p, big.NewInt(1))
})

// order is L by an other's hand.
func order() *big.Int {
	l, _ := new(big.Int).SetString("13818066809895115352007386748515426880336692474882178609894547503885", 10)
	return l.Sub(power(446), l)
}

// power is 2^k.
func power(k uint) *big.Int { return new(big.Int).Lsh(big.NewInt(1), k) }

// less is x - n.
func less(x *big.Int, n int64) *big.Int { return new(big.Int).Sub(x, big.NewInt(n)) }

// left is what x leaves, divided by p, x being below 0, too.
func left(x *big.Int) *big.Int { return new(big.Int).Mod(x, modulus()) }

// many is a number from 0 to p - 1.
func many(n int64) *big.Int { return left(big.NewInt(n)) }

// times is all together multiplied, modulo p.
func times(l ...*big.Int) *big.Int {
	out := big.NewInt(1)
	for _, x := range l {
		out = left(out.Mul(out, x))
	}
	return out
}

// plus is x and y together, modulo p.
func plus(x, y *big.Int) *big.Int { return left(new(big.Int).Add(x, y)) }

// minus is x less y, modulo p.
func minus(x, y *big.Int) *big.Int { return left(new(big.Int).Sub(x, y)) }

// opposite is 0 less x, modulo p.
func opposite(x *big.Int) *big.Int { return left(new(big.Int).Neg(x)) }

// through is x divided by y, modulo p; divided by 0 it is 0.
func through(x, y *big.Int) *big.Int {
	if y.Sign() == 0 {
		return new(big.Int)
	}
	return times(x, new(big.Int).ModInverse(y, modulus()))
}

// rooted is a root of x, modulo p, or nil.
func rooted(x *big.Int) *big.Int { return new(big.Int).ModSqrt(x, modulus()) }

// text is a number's bytes, so many or more, the lowest one first.
func text(x *big.Int, size int) []byte {
	b := x.FillBytes(make([]byte, max(size, (x.BitLen()+7)/8)))
	slices.Reverse(b)
	return b
}

// number is the number of bytes, the lowest one first.
func number(b []byte) *big.Int {
	b = slices.Clone(b)
	slices.Reverse(b)
	return new(big.Int).SetBytes(b)
}

// some is n bytes that are not much like each other.
func some(n int, seed uint64) []byte {
	b := make([]byte, n)
	for i := range b {
		seed = seed*6364136223846793005 + 1442695040888963407
		b[i] = byte(seed >> 56)
	}
	return b
}

// of is the element of a number below 2^448, whose limbs stand where the number does, at p or more, too.
func of(t testing.TB, x *big.Int) field.Element {
	t.Helper()
	a, e := field.Of(text(x, api.Field))
	if e != api.OK {
		t.Fatal(int(e))
	}
	return a
}

// high is the element of a number from 0 to p - 1, at p or more, where there is room for it, else made by other elements.
func high(t testing.TB, x *big.Int) field.Element {
	t.Helper()
	if y := new(big.Int).Add(x, modulus()); y.BitLen() <= 448 {
		return of(t, y)
	}
	top := of(t, less(power(448), 1))
	return field.Sub(field.Add(of(t, x), top), top)
}

// spot is two numbers from 0 to p - 1.
type spot struct{ x, y *big.Int }

// at is the spot of two numbers.
func at(x, y int64) spot { return spot{many(x), many(y)} }

// bends is 39082 times four numbers.
func bends(x, u, y, v *big.Int) *big.Int { return times(many(39082), x, u, y, v) }

// is tells whether a spot is a point's of the twisted curve, by the chapter's words.
func (s spot) is() bool {
	return minus(times(s.y, s.y), times(s.x, s.x)).Cmp(minus(many(1), bends(s.x, s.x, s.y, s.y))) == 0
}

// flat tells whether a spot is a point's of edwards448, by the chapter's words.
func (s spot) flat() bool {
	return plus(times(s.x, s.x), times(s.y, s.y)).Cmp(minus(many(1), times(many(39081), s.x, s.x, s.y, s.y))) == 0
}

// and is both together, by the chapter's words.
func (s spot) and(o spot) spot {
	c := bends(s.x, o.x, s.y, o.y)
	return spot{
		through(plus(times(s.x, o.y), times(s.y, o.x)), minus(many(1), c)),
		through(plus(times(s.y, o.y), times(s.x, o.x)), plus(many(1), c)),
	}
}

// plain tells whether nothing is divided by 0 in both together.
func (s spot) plain(o spot) bool {
	c := bends(s.x, o.x, s.y, o.y)
	return c.Cmp(many(1)) != 0 && c.Cmp(many(-1)) != 0
}

// to is where a spot goes, by the chapter's words.
func (s spot) to() spot {
	xx, yy := times(s.x, s.x), times(s.y, s.y)
	return spot{
		through(times(many(2), s.x, s.y), minus(yy, xx)),
		through(plus(xx, yy), minus(minus(many(2), xx), yy)),
	}
}

// back is where a spot goes, by the chapter's words.
func (s spot) back() spot {
	xx, yy := times(s.x, s.x), times(s.y, s.y)
	return spot{
		through(times(many(2), s.x, s.y), plus(xx, yy)),
		through(minus(yy, xx), plus(minus(many(2), yy), xx)),
	}
}

// neg is 0 less x, y.
func (s spot) neg() spot { return spot{opposite(s.x), s.y} }

// like tells whether two spots are the same.
func (s spot) like(o spot) bool { return s.x.Cmp(o.x) == 0 && s.y.Cmp(o.y) == 0 }

// String is both numbers.
func (s spot) String() string { return fmt.Sprintf("%x, %x", s.x, s.y) }

// mult is so many times a spot.
func (s spot) mult(k *big.Int) spot {
	out := at(0, 1)
	for i := k.BitLen() - 1; i >= 0; i-- {
		out = out.and(out)
		if k.Bit(i) == 1 {
			out = out.and(s)
		}
	}
	return out
}

// bare are the spots at which something is divided by 0, put together with a spot: a root of 1 divided by -39082, divided by each element.
func (s spot) bare() []spot {
	if s.x.Sign() == 0 || s.y.Sign() == 0 {
		return nil
	}
	r := rooted(through(many(1), many(-39082)))
	u, v := through(r, s.y), through(r, s.x)
	return []spot{{u, v}, {opposite(u), v}, {u, opposite(v)}, {opposite(u), opposite(v)}}
}

// base is the base of package point.
func base() spot {
	x, _ := new(big.Int).SetString("4f1970c66bed0ded221d15a622bf36da9e146570470f1767ea6de324a3d3a46412ae1af72ab66511433b80e18b00938e2626a82bc70cc05e", 16)
	y, _ := new(big.Int).SetString("693f46716eb6bc248876203756c9c7624bea73736ca3984087789c1e05a0c2d73ad3ff1ce67c39c4fdbd132c4ed7c8ad9808795bf230fa14", 16)
	return spot{x, y}
}

// quarters are the points of edwards448 of which four times is the identity.
func quarters() []spot { return []spot{at(0, 1), at(1, 0), at(0, -1), at(-1, 0)} }

// chance are n points of the twisted curve of no one's choice: of y from a seed on, those that have an x.
func chance(n int, seed uint64) []spot {
	var out []spot
	for ; len(out) < n; seed++ {
		y := left(number(some(api.Field, seed)))
		yy := times(y, y)
		if x := rooted(through(minus(many(1), yy), minus(times(many(39082), yy), many(1)))); x != nil {
			out = append(out, spot{x, y}, spot{x, y}.neg())
		}
	}
	return out[:n]
}

// flats are n points of edwards448 of no one's choice.
func flats(n int, seed uint64) []spot {
	var out []spot
	for ; len(out) < n; seed++ {
		y := left(number(some(api.Field, seed)))
		yy := times(y, y)
		if x := rooted(through(minus(many(1), yy), plus(times(many(39081), yy), many(1)))); x != nil {
			out = append(out, spot{x, y}, spot{opposite(x), y})
		}
	}
	return out[:n]
}

// lay is a spot's point of edwards448.
func lay(t testing.TB, s spot) point.Point {
	t.Helper()
	p, e := point.Of(of(t, s.x), of(t, s.y))
	if e != api.OK {
		t.Fatal(s, int(e))
	}
	return p
}

// where is the spot of a point of edwards448.
func where(p point.Point) spot {
	x, y := point.Affine(p)
	return spot{number(field.Bytes(x)), number(field.Bytes(y))}
}

// reach is a spot's point, by Of.
func reach(t testing.TB, s spot) Point {
	t.Helper()
	p, e := Of(of(t, s.x), of(t, s.y))
	if e != api.OK {
		t.Fatal(s, int(e))
	}
	return p
}

// far is a spot's point, by Of, of elements at p or more, where there is room for them.
func far(t testing.TB, s spot) Point {
	t.Helper()
	p, e := Of(high(t, s.x), high(t, s.y))
	if e != api.OK {
		t.Fatal(s, int(e))
	}
	return p
}

// same holds a point against a spot.
func same(t testing.TB, what string, p Point, want spot) {
	t.Helper()
	x, y := Affine(p)
	if !bytes.Equal(field.Bytes(x), text(want.x, api.Field)) || !bytes.Equal(field.Bytes(y), text(want.y, api.Field)) {
		t.Errorf("%s: %v, not %v", what, spot{number(field.Bytes(x)), number(field.Bytes(y))}, want)
	}
}

// returned holds what Back answers against a spot's words.
func returned(t testing.TB, what string, p Point, s spot) {
	t.Helper()
	q, e := Back(p)
	want := s.back()
	if !want.flat() {
		if e != api.ErrPoint {
			t.Errorf("%s, of %v: %d, not ErrPoint", what, s, int(e))
		}
		return
	}
	if e != api.OK || !where(q).like(want) {
		t.Errorf("%s, of %v: %v, %d, not %v", what, s, where(q), int(e), want)
	}
}

// sample is a point, or what is none, and where it is.
type sample struct {
	p Point
	s spot
}

// grounds are points of edwards448 at which To's answers begin and end, and others, made on some ways.
func grounds(t testing.TB) []point.Point {
	t.Helper()
	var l []point.Point
	for _, q := range quarters() {
		l = append(l, lay(t, q))
	}
	b := point.Base()
	p := b
	for i := range 4 {
		l = append(l, p, point.Neg(p), point.Add(p, l[i]))
		p = point.Add(p, b)
	}
	for _, s := range flats(6, 30) {
		l = append(l, lay(t, s))
	}
	return append(l, point.Double(lay(t, flats(1, 60)[0])), point.Identity(), point.Four(b))
}

// samples are points of the twisted curve, made on all ways: those that To answers, those that it does not, and the edges.
func samples(t testing.TB) []sample {
	t.Helper()
	l := []sample{{Identity(), at(0, 1)}, {reach(t, at(0, 1)), at(0, 1)}, {far(t, at(0, 1)), at(0, 1)}, {reach(t, at(0, -1)), at(0, -1)}, {far(t, at(0, -1)), at(0, -1)}}
	for i, p := range grounds(t) {
		s := where(p).to()
		turned := spot{opposite(s.x), opposite(s.y)} // 0, -1 with it
		l = append(l, sample{To(p), s})
		switch i % 3 {
		case 0:
			l = append(l, sample{reach(t, s), s}, sample{reach(t, turned), turned})
		case 1:
			l = append(l, sample{far(t, s), s}, sample{Add(To(p), reach(t, at(0, -1))), turned})
		default:
			l = append(l, sample{Neg(Neg(To(p))), s}, sample{Add(Add(reach(t, turned), To(point.Base())), Neg(To(point.Base()))), turned})
		}
	}
	for i, s := range chance(10, 700) {
		if i%2 == 0 {
			l = append(l, sample{reach(t, s), s})
		} else {
			l = append(l, sample{far(t, s), s})
		}
		l = append(l, sample{Double(reach(t, s)), s.and(s)})
	}
	return l
}

// nones are what sums answer in which something is divided by 0, and sums of these.
func nones(t testing.TB) []sample {
	t.Helper()
	var l []sample
	for i, s := range append(chance(3, 90), base().to()) {
		for _, o := range s.bare() {
			l = append(l, sample{Add(reach(t, s), reach(t, o)), s.and(o)})
			if i < 2 {
				k := len(l) - 1
				l = append(l, sample{Add(l[k].p, reach(t, s)), l[k].s.and(s)}, sample{Double(l[k].p), l[k].s.and(l[k].s)})
			}
		}
	}
	return l
}

// every are points and what is none.
func every(t testing.TB) []sample { return append(samples(t), nones(t)...) }

// few are some of them, of all kinds.
func few(l []sample, apart int) []sample {
	var out []sample
	for i, c := range l {
		if i%apart == 0 {
			out = append(out, c)
		}
	}
	return out
}

// P13.2: the chapter's example.
func TestExamples(t *testing.T) {
	for _, p := range []point.Point{point.Identity(), lay(t, at(0, -1)), lay(t, at(1, 0))} {
		if !Equal(To(p), Identity()) {
			t.Error(where(p))
		}
		same(t, "To", To(p), at(0, 1))
	}
}

// P13.1: Identity is 0, 1.
func TestIdentity(t *testing.T) {
	same(t, "Identity", Identity(), at(0, 1))
	p, e := Of(field.Int(0), field.Int(1))
	if e != api.OK || !Equal(p, Identity()) || p != Identity() {
		t.Error(int(e))
	}
}

// P13.1: Of is the point of its elements, wherever these stand, and however they were made.
func TestOf(t *testing.T) {
	for _, s := range append(chance(60, 4000), base().to(), flats(1, 9)[0].to()) {
		for i, c := range []spot{s, s.neg(), {s.x, opposite(s.y)}, {opposite(s.x), opposite(s.y)}} { // a sign more, or less, is a point, too
			same(t, fmt.Sprint("Of ", i), reach(t, c), c)
			same(t, fmt.Sprint("Of elements at p or more ", i), far(t, c), c)
		}
	}
	for _, c := range samples(t) {
		p, e := Of(Affine(c.p))
		if e != api.OK || !Equal(p, c.p) {
			t.Error(c.s, int(e))
		}
		same(t, "Of what Affine answers", p, c.s)
	}
}

// P13.1: Of 0 and 1, made on all ways, and of these with signs, or the other way round.
func TestOfZeroAndOne(t *testing.T) {
	for _, zero := range []field.Element{{}, field.Int(0), of(t, modulus()), field.Sub(field.Int(7), field.Int(7)), field.Neg(field.Element{})} {
		for _, one := range []field.Element{field.Int(1), of(t, less(modulus(), -1)), field.Neg(field.Int(-1)), field.Square(field.Int(-1))} {
			for i, y := range []field.Element{one, field.Neg(one)} {
				p, e := Of(zero, y)
				if e != api.OK {
					t.Error(i, int(e))
				}
				same(t, "Of 0 and 1", p, quarters()[2*i])
			}
			for i, l := range [][2]field.Element{{one, zero}, {field.Neg(one), zero}, {zero, zero}, {one, one}, {one, field.Neg(one)}, {field.Neg(one), one}, {field.Neg(one), field.Neg(one)}} {
				if _, e := Of(l[0], l[1]); e != api.ErrPoint {
					t.Error(i, int(e))
				}
			}
		}
	}
}

// asked holds Of's error against what the chapter says.
func asked(t testing.TB, x, y *big.Int) {
	t.Helper()
	want := api.OK
	if !(spot{left(x), left(y)}).is() {
		want = api.ErrPoint
	}
	if _, e := Of(of(t, x), of(t, y)); e != want {
		t.Errorf("%x, %x: %d, not %d", x, y, int(e), int(want))
	}
}

// P13.1: Of all pairs of numbers at which elements, and points' elements, begin and end.
func TestOfPairs(t *testing.T) {
	p, s := modulus(), base().to()
	l := []*big.Int{
		p, less(p, -1), less(p, -2), less(power(448), 1), less(power(448), 2), power(447), power(224), less(power(224), 1),
		new(big.Int).Rsh(p, 1), less(new(big.Int).Rsh(p, 1), -1), many(39081), many(-39081), many(39082), many(-39082),
		base().x, base().y, s.x, s.y, opposite(s.x), opposite(s.y), plus(s.x, s.y),
	}
	for n := range int64(8) {
		l = append(l, big.NewInt(n), less(p, n+1))
	}
	points := 0
	for _, x := range l {
		for _, y := range l {
			asked(t, x, y)
			if (spot{left(x), left(y)}).is() {
				points++
			}
		}
	}
	if points < 8 || points > 40 {
		t.Error("points among the pairs:", points)
	}
}

// P13.1: Of is ErrPoint, if x alone, y alone, or both, are not the point's.
func TestOfNone(t *testing.T) {
	l := append(chance(12, 300), base().to(), at(0, 1), at(0, -1))
	for i, s := range l {
		o := l[(i+5)%len(l)]
		for n := int64(-2); n < 3; n++ {
			asked(t, left(less(s.x, n)), s.y)
			asked(t, s.x, left(less(s.y, n)))
			asked(t, left(less(s.x, n)), left(less(s.y, n)))
			asked(t, times(s.x, many(n)), s.y)
			asked(t, s.x, times(s.y, many(n)))
			asked(t, times(s.x, many(n)), times(s.y, many(n)))
		}
		asked(t, s.x, o.y)
		asked(t, o.x, s.y)
		asked(t, s.y, s.x)
		asked(t, s.x, s.x)
		asked(t, s.y, s.y)
		asked(t, times(s.x, s.x), times(s.y, s.y))
	}
	s := base().to()
	for _, o := range []spot{{plus(s.x, many(1)), s.y}, {s.x, plus(s.y, many(1))}, {s.y, s.x}} {
		if _, e := Of(of(t, o.x), of(t, o.y)); e != api.ErrPoint || o.is() {
			t.Error(o, int(e))
		}
	}
}

// P13.1: Of is ErrPoint, if a bit of x, or of y, is turned.
func TestOfBits(t *testing.T) {
	for _, s := range append(chance(1, 7), base().to(), at(0, 1), at(0, -1)) {
		for k := range 448 {
			turned := func(x *big.Int) *big.Int { return new(big.Int).SetBit(x, k, 1-x.Bit(k)) }
			asked(t, turned(s.x), s.y)
			asked(t, s.x, turned(s.y))
		}
	}
}

// P13.1: Of is ErrPoint of points of package point that are none of the twisted curve.
func TestOfFlat(t *testing.T) {
	both := 0
	for _, s := range append(flats(80, 1000), base(), at(1, 0), at(-1, 0), at(0, 1), at(0, -1)) {
		if !s.flat() {
			t.Fatal(s)
		}
		asked(t, s.x, s.y)
		asked(t, s.y, s.x)
		if s.is() {
			both++
		}
	}
	if both != 2 {
		t.Error(both, "are points of both curves")
	}
	for _, p := range grounds(t) {
		x, y := point.Affine(p)
		want := api.ErrPoint
		if field.Zero(x) {
			want = api.OK
		}
		if _, e := Of(x, y); e != want {
			t.Error(where(p), int(e))
		}
	}
}

// P13.1: Of is ErrPoint of the points of curves a x x + b y y = 1 + d x x y y that are but for a sign, or a number, the twisted one.
func TestOfOtherCurves(t *testing.T) {
	found := 0
	for _, c := range [][3]int64{
		{1, 1, -39082}, {1, -1, -39082}, {-1, -1, -39082}, {-1, 1, 39082}, {1, 1, 39082}, {1, -1, 39082}, {-1, -1, 39082}, {-1, 1, -39081}, {-1, 1, -39083},
		{1, 1, -39081}, {-1, 1, 39081}, {-1, 1, 0}, {-1, 1, 1}, {-1, 1, -1}, {-1, 1, -78164}, {-1, 1, -19541}, {-1, 1, -39082 * 39082}, {-2, 1, -39082}, {-1, 2, -39082}, {0, 1, -39082}, {-1, 0, -39082},
	} {
		for n := int64(2); n < 30; n++ {
			yy := many(n * n)
			x := rooted(through(minus(many(1), times(many(c[1]), yy)), minus(many(c[0]), times(many(c[2]), yy))))
			if x == nil {
				continue
			}
			found++
			if _, e := Of(of(t, x), field.Int(int(n))); e != api.ErrPoint {
				t.Errorf("%d, y %d: %d", c, n, int(e))
			}
			asked(t, many(-n), x)
		}
	}
	if found < 200 {
		t.Error(found, "points")
	}
}

// P13.1: Affine of what Of, Add, Double, Neg, To and Identity answer, points or none.
func TestAffine(t *testing.T) {
	for i, c := range every(t) {
		same(t, fmt.Sprint("Affine ", i), c.p, c.s)
		x, y := Affine(c.p)
		if a, b := Affine(c.p); !field.Equal(x, a) || !field.Equal(y, b) {
			t.Error(i, "an other one")
		}
	}
	b := To(point.Base())
	p, s := b, base().to()
	for range 200 {
		same(t, "so many times", p, s)
		p, s = Add(p, b), s.and(base().to())
	}
}

// P13.1: Add of all pairs is the chapter's, a point or not.
func TestAdd(t *testing.T) {
	l := every(t)
	for i, c := range l {
		for k, o := range l {
			if (i+k)%5 == 0 || i == k || i < 6 || k < 6 {
				same(t, fmt.Sprintf("%v and %v", c.s, o.s), Add(c.p, o.p), c.s.and(o.s))
			}
		}
	}
}

// P13.1: Add of a point and the identity, of it and Neg of it, of it and itself, of it and 0, -1, of it and what has its x alone.
func TestAddEdges(t *testing.T) {
	turn := reach(t, at(0, -1))
	for _, c := range samples(t) {
		same(t, "and the identity", Add(c.p, Identity()), c.s)
		same(t, "the identity, and it", Add(Identity(), c.p), c.s)
		same(t, "and Neg of it", Add(c.p, Neg(c.p)), at(0, 1))
		same(t, "Neg of it, and it", Add(Neg(c.p), c.p), at(0, 1))
		same(t, "and itself", Add(c.p, c.p), c.s.and(c.s))
		same(t, "and itself, made anew", Add(c.p, far(t, c.s)), c.s.and(c.s))
		mirror := spot{c.s.x, opposite(c.s.y)}
		same(t, "and what has its x", Add(c.p, reach(t, mirror)), at(0, -1))
		same(t, "and 0, -1", Add(c.p, turn), spot{opposite(c.s.x), opposite(c.s.y)})
		if !c.s.plain(c.s) || !c.s.plain(c.s.neg()) || !c.s.plain(mirror) || !c.s.plain(at(0, -1)) {
			t.Error(c.s, "a divisor is 0")
		}
	}
}

// P13.1: Add of points for which a divisor is 0: there are four of them to each point whose x and y are not 0, and what is divided by 0 is 0, and the other element as it is.
func TestAddDividedByZero(t *testing.T) {
	first, second, points := 0, 0, 0
	for _, s := range append(chance(40, 20), base().to(), flats(1, 4)[0].to()) {
		l := s.bare()
		if len(l) != 4 {
			t.Fatal(s)
		}
		for _, o := range l {
			if !o.is() || s.plain(o) {
				t.Fatal(s, o)
			}
			for _, p := range []Point{Add(reach(t, s), reach(t, o)), Add(far(t, o), reach(t, s))} {
				same(t, "divided by 0", p, s.and(o))
				x, y := Affine(p)
				switch c := bends(s.x, o.x, s.y, o.y); {
				case c.Cmp(many(1)) == 0 && field.Zero(x):
					first++
					if want := through(plus(times(s.y, o.y), times(s.x, o.x)), many(2)); number(field.Bytes(y)).Cmp(want) != 0 {
						t.Error("y of", s, o)
					}
				case c.Cmp(many(-1)) == 0 && field.Zero(y):
					second++
					if want := through(plus(times(s.x, o.y), times(s.y, o.x)), many(2)); number(field.Bytes(x)).Cmp(want) != 0 {
						t.Error("x of", s, o)
					}
				default:
					t.Error(s, o)
				}
			}
			if s.and(o).is() {
				points++
			}
		}
	}
	if first < 40 || second < 40 {
		t.Error(first, "divided by 0 first,", second, "second")
	}
	if points != 0 {
		t.Error(points, "are points")
	}
}

// P13.1: Add goes on from what is no point by the same words.
func TestAddOfNone(t *testing.T) {
	l := nones(t)
	none := 0
	for i, c := range l {
		if !c.s.is() {
			none++
		}
		same(t, "none", c.p, c.s)
		same(t, "and the identity", Add(c.p, Identity()), c.s)
		same(t, "the identity, and it", Add(Identity(), c.p), c.s)
		same(t, "and itself", Add(c.p, c.p), c.s.and(c.s))
		same(t, "Double", Double(c.p), c.s.and(c.s))
		same(t, "and Neg of it", Add(c.p, Neg(c.p)), c.s.and(c.s.neg()))
		for k := range l {
			o := l[(i+k)%len(l)]
			same(t, "two of them", Add(c.p, o.p), c.s.and(o.s))
		}
		for _, b := range few(samples(t), 9) {
			same(t, "and a point", Add(c.p, b.p), c.s.and(b.s))
			same(t, "a point, and it", Add(b.p, c.p), b.s.and(c.s))
		}
	}
	if none < 16 {
		t.Error(none, "of", len(l), "are no points")
	}
}

// P13.1: Double and Neg, by the chapter's words, of points and of what is none.
func TestOfOne(t *testing.T) {
	for _, c := range every(t) {
		same(t, "Double", Double(c.p), c.s.and(c.s))
		same(t, "Neg", Neg(c.p), c.s.neg())
		same(t, "Neg of Neg", Neg(Neg(c.p)), c.s)
		same(t, "Double of Neg", Double(Neg(c.p)), c.s.neg().and(c.s.neg()))
		if !Equal(Double(c.p), Add(c.p, c.p)) {
			t.Error(c.s, "not as Add")
		}
	}
}

// P13.1: of points of the curve, Double and Neg, and of those that To answers Add, are points, by Of.
func TestPoints(t *testing.T) {
	held := func(what string, p Point, s spot) {
		if _, e := Of(Affine(p)); e != api.OK {
			t.Errorf("%s, of %v, is no point", what, s)
		}
	}
	for _, c := range samples(t) {
		held("it", c.p, c.s)
		held("Neg", Neg(c.p), c.s)
		held("Double", Double(c.p), c.s)
		held("Double of Double", Double(Double(c.p)), c.s)
	}
	l := grounds(t)
	for _, p := range l {
		held("To", To(p), where(p))
		for _, q := range l {
			held("To and To", Add(To(p), To(q)), where(p))
		}
	}
}

// P13.1: Equal of all pairs.
func TestEqual(t *testing.T) {
	l := every(t)
	for _, c := range l {
		for _, o := range l {
			if Equal(c.p, o.p) != c.s.like(o.s) {
				t.Error(c.s, o.s)
			}
		}
	}
}

// P13.1: Equal of one point made on two ways, of a point and Neg of it, and of those of which x alone, or y alone, is the same.
func TestEqualEdges(t *testing.T) {
	b := To(point.Base())
	for _, c := range samples(t) {
		for i, p := range []Point{Add(b, Add(c.p, Neg(b))), far(t, c.s), reach(t, c.s), Neg(Neg(c.p)), Add(Identity(), c.p)} {
			if !Equal(p, c.p) || !Equal(c.p, p) {
				t.Error(i, c.s, "is not the same")
			}
		}
		for what, o := range map[string]spot{
			"x alone": {c.s.x, opposite(c.s.y)}, "y alone": c.s.neg(), "neither": {opposite(c.s.x), opposite(c.s.y)},
		} {
			for _, q := range []Point{reach(t, o), far(t, o)} {
				if Equal(c.p, q) != c.s.like(o) || Equal(q, c.p) != c.s.like(o) {
					t.Error(what, c.s)
				}
			}
		}
		if Equal(c.p, Neg(c.p)) != (c.s.x.Sign() == 0) {
			t.Error("Neg of", c.s)
		}
	}
	for _, c := range nones(t) { // what is no point is told by x and y, too
		x, y := Affine(c.p)
		if !Equal(c.p, Point{x, y}) || Equal(c.p, Point{field.Add(x, field.Int(1)), y}) || Equal(c.p, Point{x, field.Add(y, field.Int(1))}) {
			t.Error(c.s)
		}
		for k := -3; k < 4; k++ { // one more in x, and as much more, or less, in y
			up := field.Int(k)
			if Equal(c.p, Point{field.Add(x, up), field.Add(y, up)}) != (k == 0) || Equal(c.p, Point{field.Sub(x, up), field.Add(y, up)}) != (k == 0) {
				t.Error(c.s, k)
			}
		}
	}
}

// P13.2: To of the identity, of 0, -1, of 1, 0 and of -1, 0, of the base, and of points made on all ways, by the chapter's words.
func TestTo(t *testing.T) {
	for i, q := range quarters() {
		same(t, fmt.Sprint("of which four times is the identity ", i), To(lay(t, q)), at(0, 1))
	}
	same(t, "the base", To(point.Base()), base().to())
	for _, p := range grounds(t) {
		same(t, "To", To(p), where(p).to())
		same(t, "To of Neg", To(point.Neg(p)), where(p).to().neg())
	}
	for _, s := range flats(60, 2000) {
		same(t, "To", To(lay(t, s)), s.to())
		p, e := point.Of(high(t, s.x), high(t, s.y))
		if e != api.OK {
			t.Fatal(int(e))
		}
		same(t, "To, of elements at p or more", To(p), s.to())
		same(t, "To, of a point that was put together", To(point.Add(point.Add(p, point.Base()), point.Neg(point.Base()))), s.to())
	}
}

// P13.2, P13.3: To of a point and that with each of which four times is the identity is one.
func TestToOfFour(t *testing.T) {
	for _, p := range grounds(t) {
		for _, q := range quarters() {
			all := point.Add(p, lay(t, q))
			same(t, fmt.Sprint("with ", q), To(all), where(p).to())
			if !Equal(To(all), To(p)) {
				t.Error(where(p), q)
			}
		}
	}
}

// P13.2: Back of the identity, of what To answers, and of points that it does not answer, by the chapter's words.
func TestBack(t *testing.T) {
	p, e := Back(Identity())
	if e != api.OK || !point.Equal(p, point.Identity()) {
		t.Error(int(e))
	}
	p, e = Back(reach(t, at(0, -1)))
	if e != api.OK || !point.Equal(p, point.Identity()) {
		t.Error(int(e))
	}
	for _, c := range samples(t) {
		returned(t, "Back", c.p, c.s)
		returned(t, "Back of Neg", Neg(c.p), c.s.neg())
		if _, e := Back(c.p); e != api.OK {
			t.Error(c.s, int(e))
		}
	}
	for _, s := range chance(60, 5000) {
		returned(t, "Back of Of", reach(t, s), s)
		returned(t, "Back of elements at p or more", far(t, s), s)
		for _, o := range append(s.bare(), spot{opposite(s.x), opposite(s.y)}) { // these are one in Back, or one and Neg of it
			returned(t, "Back of what goes with it", reach(t, o), o)
		}
	}
}

// P13.2: Back of what is no point is point.Of's error, if that is none there either.
func TestBackOfNone(t *testing.T) {
	wrong := 0
	for _, c := range nones(t) {
		returned(t, "Back", c.p, c.s)
		if _, e := Back(c.p); e == api.ErrPoint {
			wrong++
		}
	}
	if wrong < 16 {
		t.Error(wrong, "are ErrPoint")
	}
	bare := []spot{at(0, 0), {new(big.Int), rooted(many(2))}, {many(1), rooted(many(3))}, {rooted(many(2)), many(2)}} // of these, something is divided by 0
	for _, s := range append(bare, at(1, 0), at(-1, 0), at(1, 1), at(2, 3)) {
		returned(t, "Back", Point{of(t, s.x), of(t, s.y)}, s)
	}
}

// P13.3: Back of To is four times a point; To of Back is four times what To answers.
func TestFourTimes(t *testing.T) {
	for _, p := range grounds(t) {
		q, e := Back(To(p))
		if e != api.OK || !point.Equal(q, point.Four(p)) || !point.Equal(q, point.Add(point.Add(p, p), point.Add(p, p))) {
			t.Error("Back of To of", where(p), int(e))
		}
		a := To(p)
		q, e = Back(a)
		if e != api.OK || !Equal(To(q), Double(Double(a))) || !Equal(To(q), Add(a, Add(a, Add(a, a)))) {
			t.Error("To of Back of To of", where(p), int(e))
		}
	}
	for _, s := range flats(40, 3000) {
		q, e := Back(To(lay(t, s)))
		if e != api.OK || !point.Equal(q, point.Four(lay(t, s))) {
			t.Error("Back of To of", s, int(e))
		}
	}
	for _, s := range chance(40, 3500) { // of what To does not answer, too, as nothing is divided by 0 in a double
		q, e := Back(reach(t, s))
		if e != api.OK || !Equal(To(q), Double(Double(reach(t, s)))) {
			t.Error("To of Back of", s, int(e))
		}
	}
}

// P13.3: To of two points together is both's together, Back likewise of what To answers.
func TestTogether(t *testing.T) {
	l := grounds(t)
	for _, p := range l {
		for _, q := range l {
			if !Equal(To(point.Add(p, q)), Add(To(p), To(q))) {
				t.Error("To of", where(p), where(q))
			}
			all, e := Back(Add(To(p), To(q)))
			a, n := Back(To(p))
			b, m := Back(To(q))
			if e != api.OK || n != api.OK || m != api.OK || !point.Equal(all, point.Add(a, b)) {
				t.Error("Back of", where(p), where(q))
			}
		}
		if !Equal(To(point.Neg(p)), Neg(To(p))) || !Equal(To(point.Double(p)), Double(To(p))) || !Equal(To(point.Four(p)), Double(Double(To(p)))) {
			t.Error(where(p))
		}
	}
}

// P13.3: of the points that To answers Add goes either way, and does not hang on how three are put together; the identity turns nothing; a point and Neg of it are the identity.
func TestLaws(t *testing.T) {
	var l []Point
	for _, p := range grounds(t) {
		l = append(l, To(p))
	}
	for i, a := range l {
		if !Equal(Add(a, Identity()), a) || !Equal(Add(a, Neg(a)), Identity()) || !Equal(Add(Neg(a), a), Identity()) || !Equal(Neg(Neg(a)), a) {
			t.Error(i)
		}
		for j, b := range l {
			if !Equal(Add(a, b), Add(b, a)) || !Equal(Neg(Add(a, b)), Add(Neg(a), Neg(b))) || !Equal(Add(Add(a, b), Neg(b)), a) {
				t.Error(i, j)
			}
			for k, c := range l {
				if (i+j+k)%3 == 0 && !Equal(Add(a, Add(b, c)), Add(Add(a, b), c)) {
					t.Error(i, j, k)
				}
			}
		}
	}
	if !Equal(Neg(Identity()), Identity()) || !Equal(Double(Identity()), Identity()) {
		t.Error("of the identity")
	}
}

// P13.1: Add goes either way, of points that To does not answer, and of what is none, too.
func TestEitherWay(t *testing.T) {
	l := every(t)
	for i, c := range l {
		for k, o := range l[i:] {
			if k%4 == 0 && !Equal(Add(c.p, o.p), Add(o.p, c.p)) {
				t.Error(c.s, o.s)
			}
		}
	}
}

// fibre are the points of edwards448 of which To has a spot's y, by its words: of x x + y y, which y tells, and x x y y, which the curve tells, both squares follow, and of them all points.
func fibre(s spot) []spot {
	both := through(times(many(2), s.y), plus(many(1), s.y))
	product := through(minus(both, many(1)), many(-39081))
	root := rooted(minus(times(both, both), times(many(4), product)))
	if root == nil {
		return nil
	}
	var out []spot
	for _, r := range []*big.Int{root, opposite(root)} {
		x, y := rooted(through(plus(both, r), many(2))), rooted(through(minus(both, r), many(2)))
		if x == nil || y == nil {
			continue
		}
		for _, o := range []spot{{x, y}, {opposite(x), y}, {x, opposite(y)}, {opposite(x), opposite(y)}} {
			if !slices.ContainsFunc(out, o.like) {
				out = append(out, o)
			}
		}
	}
	return out
}

// P13.3: just four points are one in To: of all points that To's y lets be, these go there, the other four to Neg of it.
func TestJustFour(t *testing.T) {
	for _, p := range append(grounds(t), lay(t, flats(1, 77)[0]), point.Neg(point.Four(point.Base()))) {
		a, there := To(p), 0
		l := fibre(where(p).to())
		for _, o := range l {
			q := lay(t, o)
			switch {
			case Equal(To(q), a):
				there++
				if !point.Equal(point.Four(q), point.Four(p)) {
					t.Error(o, "is not that with a point of which four times is the identity")
				}
			case !Equal(To(q), Neg(a)):
				t.Error(o, "goes elsewhere")
			}
		}
		if there != 4 || len(l) != 4 && len(l) != 8 {
			t.Error(where(p), "is one with", there, "of", len(l))
		}
	}
}

// P13.3: To of two points is one just if what is between them is a point of which four times is the identity.
func TestOneInTo(t *testing.T) {
	l := grounds(t)
	for _, p := range l {
		for _, q := range l {
			want := point.Equal(point.Four(point.Add(p, point.Neg(q))), point.Identity())
			if Equal(To(p), To(q)) != want {
				t.Error(where(p), where(q))
			}
		}
	}
	came := map[string]bool{}
	p := point.Base()
	for range 2000 {
		x, y := Affine(To(p))
		came[string(field.Bytes(x))+string(field.Bytes(y))] = true
		p = point.Add(p, point.Base())
	}
	if len(came) != 2000 {
		t.Error(len(came), "of 2000")
	}
}

// P13.3: L times what To answers is the identity, and fewer times, of those that are tried here, are not.
func TestOrder(t *testing.T) {
	for _, p := range grounds(t)[4:8] {
		s := where(p).to()
		if !s.mult(order()).like(at(0, 1)) || s.mult(less(order(), 1)).like(at(0, 1)) {
			t.Error(s)
		}
		a, out := To(p), Identity()
		for i := order().BitLen() - 1; i >= 0; i-- {
			out = Double(out)
			if order().Bit(i) == 1 {
				out = Add(out, a)
			}
		}
		if !Equal(out, Identity()) {
			t.Error(s)
		}
	}
}

// P13.1, P13.3: that what divides may be 0, and where, rests on this.
func TestSquares(t *testing.T) {
	for n, is := range map[int64]int{-1: -1, -39082: 1, 39082: -1, -39081: -1} {
		if big.Jacobi(many(n), modulus()) != is {
			t.Error(n)
		}
	}
	if d != 39082 {
		t.Error(d)
	}
}

// call does one of the calls, told by a byte, with two points and where they are.
func call(t testing.TB, b byte, p, q sample) (sample, sample) {
	t.Helper()
	switch b % 8 {
	case 0:
		return sample{Double(p.p), p.s.and(p.s)}, q
	case 1:
		return sample{Neg(p.p), p.s.neg()}, q
	case 2:
		return q, p
	case 3:
		turn := at(0, -1)
		return sample{Add(p.p, reach(t, turn)), p.s.and(turn)}, q
	case 4:
		returned(t, "Back", p.p, p.s)
		if r, e := Back(p.p); e == api.OK {
			return sample{To(r), where(r).to()}, q
		}
		return p, q
	case 5:
		if l := p.s.bare(); l != nil {
			if o := l[int(b>>3)%4]; o.is() {
				return sample{Add(reach(t, o), p.p), o.and(p.s)}, q
			}
		}
		return p, q
	}
	return sample{Add(p.p, q.p), p.s.and(q.s)}, q
}

// P13.1, P13.2: long rows of calls, each of them of what the ones ahead answered.
func TestLongRows(t *testing.T) {
	for seed := range uint64(6) {
		s := chance(1, seed)[0]
		p, q := sample{reach(t, s), s}, sample{To(point.Base()), base().to()}
		for i, b := range some(300, seed) {
			if b%8 == 5 && seed < 3 {
				b++ // these rows stay on the curve
			}
			p, q = call(t, b, p, q)
			if i%5 == 0 || b%8 == 5 {
				same(t, "p", p.p, p.s)
				same(t, "q", q.p, q.s)
			}
			if seed < 3 && (!p.s.is() || !q.s.is()) {
				t.Fatal("no point")
			}
		}
		same(t, "p", p.p, p.s)
		same(t, "q", q.p, q.s)
	}
}

// R2: what is handed in stays as it is, its elements, too; what is answered is the caller's.
func TestKept(t *testing.T) {
	l := every(t)
	for i, c := range l {
		o := l[(i+1)%len(l)]
		p, q := c.p, o.p
		Add(p, q)
		Double(p)
		Neg(p)
		Equal(p, q)
		Affine(p)
		Back(p)
		if p != c.p || q != o.p {
			t.Error("a point that was handed in is an other one")
		}
		if !c.s.is() {
			continue
		}
		x, y := of(t, c.s.x), of(t, c.s.y)
		a, b := x, y
		r, _ := Of(x, y)
		if x != a || y != b {
			t.Error("an element that was handed in is an other one")
		}
		x, y = field.Int(3), field.Int(5)
		same(t, "Of, when its elements are others", r, c.s)
		x, y = Affine(r)
		x, y = field.Neg(x), field.Neg(y)
		same(t, "Affine, when its elements are others", r, c.s)
	}
	for _, p := range grounds(t) {
		q := p
		To(p)
		if p != q {
			t.Error("a point that was handed in is an other one")
		}
	}
	p, q := Identity(), To(point.Base())
	p, q = q, p
	if !Equal(q, Identity()) || Equal(p, Identity()) || !Equal(Identity(), q) {
		t.Error("Identity hangs on what was done with it")
	}
}

// answers is what calls answer of two points.
type answers struct {
	points [5]Point
	back   point.Point
	e      api.Errno
}

// all is what calls answer of two points.
func all(p, q Point, r point.Point) answers {
	o, _ := Of(Affine(p))
	b, e := Back(p)
	return answers{[5]Point{Add(p, q), Double(p), Neg(p), To(r), o}, b, e}
}

// R3: what is answered hangs on the arguments alone, not on calls ahead, of errors, too, nor on who else calls.
func TestOneState(t *testing.T) {
	l := few(every(t), 3)
	want := make([]answers, len(l))
	for i, c := range l {
		want[i] = all(c.p, l[(i+1)%len(l)].p, point.Base())
		if _, e := Of(field.Int(i), field.Int(2)); e != api.ErrPoint {
			t.Error(int(e))
		}
	}
	var wait sync.WaitGroup
	for range 4 {
		wait.Go(func() {
			for i := len(l) - 1; i >= 0; i-- {
				if all(l[i].p, l[(i+1)%len(l)].p, point.Base()) != want[i] || Identity() != Identity() {
					t.Error("an other answer")
				}
			}
		})
	}
	wait.Wait()
}

// R1: calls of any elements end, and answer errors as the chapter says.
func TestAnyElements(t *testing.T) {
	for seed := range uint64(200) {
		x, y := new(big.Int).Mod(number(some(56, seed)), power(448)), number(some(56, seed+1000))
		asked(t, x, y)
		s := spot{left(x), left(y)}
		p := Point{of(t, x), of(t, y)} // Add may answer any elements
		same(t, "Double", Double(p), s.and(s))
		returned(t, "Back", p, s)
		v := left(number(some(56, seed+2000)))
		one := through(many(1), bends(s.x, many(1), s.y, v))
		for _, u := range []*big.Int{one, opposite(one), plus(one, many(1))} { // by the first two something is divided by 0
			o := spot{u, v}
			if s.plain(o) != (u != one && u.Cmp(opposite(one)) != 0) {
				t.Fatal(s, o)
			}
			same(t, "Add", Add(p, Point{of(t, u), of(t, v)}), s.and(o))
		}
	}
}

// P13.1, P13.2: any row of calls answers what the other's hand does.
func FuzzCalls(f *testing.F) {
	f.Add([]byte{}, []byte{1})
	f.Add([]byte{0, 1, 2, 3, 4, 5, 6, 7}, []byte{2, 255})
	f.Add([]byte{6, 7, 6, 0, 1, 13, 5, 12, 2, 3, 19, 35, 51, 6}, []byte{9, 9, 9})
	f.Add(some(20, 1), some(56, 2))
	f.Fuzz(func(t *testing.T, calls, y []byte) {
		s := chance(1, number(y[:min(len(y), 8)]).Uint64())[0]
		p, q := sample{reach(t, s), s}, sample{To(point.Base()), base().to()}
		asked(t, new(big.Int).Mod(number(y), power(448)), s.y)
		for _, b := range calls[:min(len(calls), 60)] {
			p, q = call(t, b, p, q)
			if Equal(p.p, q.p) != p.s.like(q.s) {
				t.Fatal("Equal")
			}
		}
		same(t, "p", p.p, p.s)
		same(t, "q", q.p, q.s)
	})
}

func BenchmarkOf(b *testing.B) {
	x, y := Affine(To(point.Base()))
	for b.Loop() {
		Of(x, y)
	}
}

func BenchmarkAdd(b *testing.B) {
	p := To(point.Base())
	q := Double(p)
	for b.Loop() {
		Add(p, q)
	}
}

func BenchmarkEqual(b *testing.B) {
	p := To(point.Base())
	for b.Loop() {
		Equal(p, p)
	}
}

func BenchmarkTo(b *testing.B) {
	p := point.Double(point.Base())
	for b.Loop() {
		To(p)
	}
}

func BenchmarkBack(b *testing.B) {
	p := To(point.Base())
	for b.Loop() {
		Back(p)
	}
}
