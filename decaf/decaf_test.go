package decaf

import (
	"bytes"
	"encoding/hex"
	"fmt"
	"math/big"
	"slices"
	"sync"
	"testing"

	"chicory/api"
	"chicory/field"
	"chicory/point"
	"chicory/root"
	"chicory/scalar"
)

// modulus is p by an other's hand. It is made once, and nobody writes into it.
var modulus = sync.OnceValue(func() *big.Int {
	p := power(448)
	return p.Sub(p, power(224)).Sub(p, big.NewInt(1))
})

// order is L by an other's hand.
func order() *big.Int {
	l, _ := new(big.Int).SetString("13818066809895115352007386748515426880336692474882178609894547503885", 10)
	return l.Sub(power(446), l)
}

// power is 2^k.
func power(k uint) *big.Int { return new(big.Int).Lsh(big.NewInt(1), k) }

// less is x - n.
func less(x *big.Int, n int64) *big.Int { return new(big.Int).Sub(x, big.NewInt(n)) }

// left is what x leaves, divided by p, x being below 0, too.
func left(x *big.Int) *big.Int { return new(big.Int).Mod(x, modulus()) }

// many is a number from 0 to p - 1.
func many(n int64) *big.Int { return left(big.NewInt(n)) }

// times is all together multiplied, modulo p.
func times(l ...*big.Int) *big.Int {
	out := big.NewInt(1)
	for _, x := range l {
		out = left(out.Mul(out, x))
	}
	return out
}

// plus is x and y together, modulo p.
func plus(x, y *big.Int) *big.Int { return left(new(big.Int).Add(x, y)) }

// minus is x less y, modulo p.
func minus(x, y *big.Int) *big.Int { return left(new(big.Int).Sub(x, y)) }

// opposite is 0 less x, modulo p.
func opposite(x *big.Int) *big.Int { return left(new(big.Int).Neg(x)) }

// through is x divided by y, modulo p; y is not 0.
func through(x, y *big.Int) *big.Int { return times(x, new(big.Int).ModInverse(y, modulus())) }

// whole is Abs of x, by the words of package root.
func whole(x *big.Int) *big.Int {
	if x.Bit(0) == 1 {
		return opposite(x)
	}
	return x
}

// ratio is Ratio of u and v, by the words of package root.
func ratio(u, v *big.Int) (*big.Int, bool) {
	if u.Sign() == 0 || v.Sign() == 0 {
		return new(big.Int), u.Sign() == 0
	}
	q := through(u, v)
	if r := new(big.Int).ModSqrt(q, modulus()); r != nil {
		return whole(r), true
	}
	return whole(new(big.Int).ModSqrt(opposite(q), modulus())), false
}

// text is a number's bytes, so many or more, the lowest one first.
func text(x *big.Int, size int) []byte {
	b := x.FillBytes(make([]byte, max(size, (x.BitLen()+7)/8)))
	slices.Reverse(b)
	return b
}

// number is the number of bytes, the lowest one first.
func number(b []byte) *big.Int {
	b = slices.Clone(b)
	slices.Reverse(b)
	return new(big.Int).SetBytes(b)
}

// some is n bytes that are not much like each other.
func some(n int, seed uint64) []byte {
	b := make([]byte, n)
	for i := range b {
		seed = seed*6364136223846793005 + 1442695040888963407
		b[i] = byte(seed >> 56)
	}
	return b
}

// unhex is the bytes of hexadecimal digits.
func unhex(t testing.TB, s string) []byte {
	t.Helper()
	b, e := hex.DecodeString(s)
	if e != nil {
		t.Fatal(e)
	}
	return b
}

// of is the element of the field of a number below 2^448, whose limbs stand where the number does, at p or more, too.
func of(t testing.TB, x *big.Int) field.Element {
	t.Helper()
	a, e := field.Of(text(x, api.Field))
	if e != api.OK {
		t.Fatal(int(e))
	}
	return a
}

// spot is two numbers from 0 to p - 1.
type spot struct{ x, y *big.Int }

// at is the spot of two numbers.
func at(x, y int64) spot { return spot{many(x), many(y)} }

// bends is d times four numbers.
func bends(x, u, y, v *big.Int) *big.Int { return times(many(-39081), x, u, y, v) }

// flat tells whether a spot is a point's, by the words of package point.
func (s spot) flat() bool {
	return plus(times(s.x, s.x), times(s.y, s.y)).Cmp(plus(many(1), bends(s.x, s.x, s.y, s.y))) == 0
}

// and is both together, by the words of package point.
func (s spot) and(o spot) spot {
	c := bends(s.x, o.x, s.y, o.y)
	return spot{
		through(plus(times(s.x, o.y), times(s.y, o.x)), plus(many(1), c)),
		through(minus(times(s.y, o.y), times(s.x, o.x)), minus(many(1), c)),
	}
}

// neg is 0 less x, y.
func (s spot) neg() spot { return spot{opposite(s.x), s.y} }

// mult is so many times a spot.
func (s spot) mult(k *big.Int) spot {
	out := at(0, 1)
	for i := k.BitLen() - 1; i >= 0; i-- {
		out = out.and(out)
		if k.Bit(i) == 1 {
			out = out.and(s)
		}
	}
	return out
}

// like tells whether two spots are one element's, by the chapter's words.
func (s spot) like(o spot) bool { return times(s.x, o.y).Cmp(times(s.y, o.x)) == 0 }

// String is both numbers.
func (s spot) String() string { return fmt.Sprintf("%x, %x", s.x, s.y) }

// roots are the roots of 39081 and of 1 divided by it, by the chapter's words.
var roots = sync.OnceValue(func() [2]*big.Int {
	r, _ := ratio(many(39081), many(1))
	o, _ := ratio(many(1), many(39081))
	return [2]*big.Int{r, o}
})

// spread is the spot that s tells, and whether it is an element's, by the chapter's words.
func spread(s *big.Int) (spot, bool) {
	if s.Cmp(modulus()) >= 0 || s.Bit(0) == 1 {
		return spot{}, false
	}
	t := times(s, s)
	u := plus(many(1), t)
	v := minus(times(u, u), times(many(4), many(-39081), t))
	r, is := ratio(many(1), times(v, u, u))
	w := whole(times(many(2), s, r, u, roots()[0]))
	out := spot{times(w, r, v, roots()[1]), times(minus(many(1), t), r, u)}
	return out, is && out.flat()
}

// told is the s of an element's spot, by the chapter's words.
func (s spot) told() *big.Int {
	z := times(s.x, s.y)
	u := times(plus(s.x, z), minus(s.x, z))
	r, _ := ratio(many(1), times(many(39082), u, s.x, s.x))
	w := whole(times(r, u, roots()[0]))
	v := minus(times(roots()[1], w), z)
	return whole(times(many(39082), r, s.x, v))
}

// base is the base of package point.
func base() spot {
	x, _ := new(big.Int).SetString("4f1970c66bed0ded221d15a622bf36da9e146570470f1767ea6de324a3d3a46412ae1af72ab66511433b80e18b00938e2626a82bc70cc05e", 16)
	y, _ := new(big.Int).SetString("693f46716eb6bc248876203756c9c7624bea73736ca3984087789c1e05a0c2d73ad3ff1ce67c39c4fdbd132c4ed7c8ad9808795bf230fa14", 16)
	return spot{x, y}
}

// quarters are the points of which four times is the identity; the first and the third are one element's, the other two are none's.
func quarters() []spot { return []spot{at(0, 1), at(1, 0), at(0, -1), at(-1, 0)} }

// chance are n points of no one's choice, twice a point or not: of y from a seed on, those that have an x.
func chance(n int, seed uint64) []spot {
	var out []spot
	for ; len(out) < n; seed++ {
		y := left(number(some(api.Field, seed)))
		yy := times(y, y)
		if x, is := ratio(minus(many(1), yy), plus(times(many(39081), yy), many(1))); is {
			out = append(out, spot{x, y}, spot{opposite(x), y})
		}
	}
	return out[:n]
}

// lay is a spot's point.
func lay(t testing.TB, s spot) point.Point {
	t.Helper()
	p, e := point.Of(of(t, s.x), of(t, s.y))
	if e != api.OK {
		t.Fatal(s, int(e))
	}
	return p
}

// far is a spot's point, of elements at p or more, where there is room for them, that went through a sum.
func far(t testing.TB, s spot) point.Point {
	t.Helper()
	high := func(x *big.Int) field.Element {
		if y := new(big.Int).Add(x, modulus()); y.BitLen() <= 448 {
			return of(t, y)
		}
		top := of(t, less(power(448), 1))
		return field.Sub(field.Add(of(t, x), top), top)
	}
	p, e := point.Of(high(s.x), high(s.y))
	if e != api.OK {
		t.Fatal(s, int(e))
	}
	return point.Add(point.Add(p, point.Base()), point.Neg(point.Base()))
}

// where is the spot of a point.
func where(p point.Point) spot {
	x, y := point.Affine(p)
	return spot{number(field.Bytes(x)), number(field.Bytes(y))}
}

// reach is a spot's element, by Of.
func reach(t testing.TB, s spot) Element {
	t.Helper()
	e, f := Of(lay(t, s))
	if f != api.OK {
		t.Fatal(s, int(f))
	}
	return e
}

// read is the element of bytes.
func read(t testing.TB, b []byte) Element {
	t.Helper()
	e, f := Decode(b)
	if f != api.OK {
		t.Fatalf("%x: %d", b, int(f))
	}
	return e
}

// count is the scalar of a number, from 0 to L - 1.
func count(t testing.TB, k *big.Int) scalar.Scalar {
	t.Helper()
	out, e := scalar.Decode(text(k, api.Point))
	if e != api.OK {
		t.Fatal(k, int(e))
	}
	return out
}

// same holds an element against a spot: what it is held by, and what it is told as.
func same(t testing.TB, what string, e Element, want spot) {
	t.Helper()
	if s := where(e.point()); !s.like(want) || !s.flat() {
		t.Errorf("%s: %v, not %v", what, s, want)
	}
	if b := Encode(e); !bytes.Equal(b, text(want.told(), api.Field)) {
		t.Errorf("%s: told as %x, not %x", what, b, text(want.told(), api.Field))
	}
}

// refused holds an error against what it has to be; the element beside it is one.
func refused(t testing.TB, what string, e Element, f, want api.Errno) {
	t.Helper()
	if f != want {
		t.Errorf("%s: %d, not %d", what, int(f), int(want))
	}
	same(t, what, e, at(0, 1))
}

// sample is an element, and one of its points.
type sample struct {
	name string
	e    Element
	s    spot
}

// samples are elements at which the group begins and ends, and others, made on all ways.
func samples(t testing.TB) []sample {
	t.Helper()
	turn, b := at(0, -1), base()
	l := []sample{
		{"Identity", Identity(), at(0, 1)},
		{"the zero value", Element{}, at(0, 1)},
		{"Of 0, 1", reach(t, at(0, 1)), at(0, 1)},
		{"Of 0, -1", reach(t, turn), turn},
		{"Twice 1, 0", Twice(lay(t, at(1, 0))), turn},
		{"Decode of noughts", read(t, make([]byte, api.Field)), at(0, 1)},
		{"Of the base", reach(t, b), b},
		{"Of the base and 0, -1", reach(t, b.and(turn)), b},
		{"Twice the base", Twice(point.Base()), b.and(b)},
		{"Neg of the base", Neg(reach(t, b)), b.neg()},
	}
	for n := range int64(12) {
		s, is := spread(many(2 * n))
		if e, f := Decode(text(many(2*n), api.Field)); is && f == api.OK {
			l = append(l, sample{fmt.Sprint("Decode of ", 2*n), e, s})
		}
	}
	for i, q := range chance(6, 70) {
		s, k := q.and(q), l[len(l)-2]
		e := Twice(far(t, q))
		l = append(l, sample{fmt.Sprint("Twice by chance ", i), e, s})
		switch i {
		case 0:
			l = append(l, sample{"Of, by chance", reach(t, s.and(turn)), s}, sample{"Double", Double(k.e), k.s.and(k.s)})
		case 1:
			l = append(l, sample{"Add", Add(e, k.e), s.and(k.s)}, sample{"Sub of itself", Sub(e, e), at(0, 1)})
		case 2:
			l = append(l, sample{"Sub", Sub(e, k.e), s.and(k.s.neg())}, sample{"Select", Select(i%2, e, k.e), s})
		case 3:
			l = append(l, sample{"Mul", Mul(scalar.Int(-3), e), s.and(s).and(s).neg()}, sample{"Mul of 0", Mul(scalar.Int(0), e), at(0, 1)})
		case 4:
			l = append(l, sample{"Both", Both(scalar.Int(2), e, scalar.Int(1), k.e), s.and(s).and(k.s)})
		default:
			l = append(l, sample{"Sum", Sum(e, k.e, e), s.and(k.s).and(s)})
		}
	}
	return l
}

// The chapter's example.
func TestExamples(t *testing.T) {
	noughts := make([]byte, api.Field)
	if b := Encode(Identity()); !bytes.Equal(b, noughts) {
		t.Errorf("%x", b)
	}
	e, f := Decode(noughts)
	if f != api.OK || !Equal(e, Identity()) || !Equal(Identity(), e) {
		t.Error(int(f))
	}
}

// P14.1, P14.2: multiples of RFC 9496, appendix B.1, by Decode, Encode, Add, Mul, and of twice the base.
func TestKnown(t *testing.T) {
	l := []string{
		"0000000000000000000000000000000000000000000000000000000000000000000000000000000000000000000000000000000000000000",
		"6666666666666666666666666666666666666666666666666666666633333333333333333333333333333333333333333333333333333333",
		"c898eb4f87f97c564c6fd61fc7e49689314a1f818ec85eeb3bd5514ac816d38778f69ef347a89fca817e66defdedce178c7cc709b2116e75",
		"a0c09bf2ba7208fda0f4bfe3d0f5b29a543012306d43831b5adc6fe7f8596fa308763db15468323b11cf6e4aeb8c18fe44678f44545a69bc",
		"b46f1836aa287c0a5a5653f0ec5ef9e903f436e21c1570c29ad9e5f596da97eeaf17150ae30bcb3174d04bc2d712c8c7789d7cb4fda138f4",
		"1c5bbecf4741dfaae79db72dface00eaaac502c2060934b6eaaeca6a20bd3da9e0be8777f7d02033d1b15884232281a41fc7f80eed04af5e",
		"86ff0182d40f7f9edb7862515821bd67bfd6165a3c44de95d7df79b8779ccf6460e3c68b70c16aaa280f2d7b3f22d745b97a89906cfc476c",
		"502bcb6842eb06f0e49032bae87c554c031d6d4d2d7694efbf9c468d48220c50f8ca28843364d70cee92d6fe246e61448f9db9808b3b2408",
		"0c9810f1e2ebd389caa789374d78007974ef4d17227316f40e578b336827da3f6b482a4794eb6a3975b971b5e1388f52e91ea2f1bcb0f912",
		"20d41d85a18d5657a29640321563bbd04c2ffbd0a37a7ba43a4f7d263ce26faf4e1f74f9f4b590c69229ae571fe37fa639b5b8eb48bd9a55",
		"e6b4b8f408c7010d0601e7eda0c309a1a42720d6d06b5759fdc4e1efe22d076d6c44d42f508d67be462914d28b8edce32e7094305164af17",
		"be88bbb86c59c13d8e9d09ab98105f69c2d1dd134dbcd3b0863658f53159db64c0e139d180f3c89b8296d0ae324419c06fa87fc7daaf34c1",
		"a456f9369769e8f08902124a0314c7a06537a06e32411f4f93415950a17badfa7442b6217434a3a05ef45be5f10bd7b2ef8ea00c431edec5",
		"186e452c4466aa4383b4c00210d52e7922dbf9771e8b47e229a9b7b73c8d10fd7ef0b6e41530f91f24a3ed9ab71fa38b98b2fe4746d51d68",
		"4ae7fdcae9453f195a8ead5cbe1a7b9699673b52c40ab27927464887be53237f7f3a21b938d40d0ec9e15b1d5130b13ffed81373a53e2b43",
		"841981c3bfeec3f60cfeca75d9d8dc17f46cf0106f2422b59aec580a58f342272e3a5e575a055ddb051390c54c24c6ecb1e0aceb075f6056",
	}
	one := Twice(point.Base())
	sum := Identity()
	for i, s := range l {
		b := unhex(t, s)
		e, f := Decode(b)
		if f != api.OK || !Equal(e, sum) || !bytes.Equal(Encode(e), b) || !bytes.Equal(Encode(sum), b) || !bytes.Equal(Encode(Mul(scalar.Int(i), one)), b) {
			t.Error(i, int(f))
		}
		sum = Add(sum, one)
	}
}

// P14.1: bytes of RFC 9496, appendix B.2, that are none: of p or more, negative ones, and those of which Ratio's second is false.
func TestKnownWrong(t *testing.T) {
	for i, s := range []string{
		"8e24f838059ee9fef1e209126defe53dcd74ef9b6304601c6966099effffffffffffffffffffffffffffffffffffffffffffffffffffffff",
		"86fcc7212bd4a0b980928666dc28c444a605ef38e09fb569e28d4443ffffffffffffffffffffffffffffffffffffffffffffffffffffffff",
		"866d54bd4c4ff41a55d4eefdbeca73cbd653c7bd3135b383708ec0bdffffffffffffffffffffffffffffffffffffffffffffffffffffffff",
		"4a380ccdab9c86364a89e77a464d64f9157538cfdfa686adc0d5ece4ffffffffffffffffffffffffffffffffffffffffffffffffffffffff",
		"f22d9d4c945dd44d11e0b1d3d3d358d959b4844d83b08c44e659d79fffffffffffffffffffffffffffffffffffffffffffffffffffffffff",
		"8cdffc681aa99e9c818c8ef4c3808b58e86acdef1ab68c8477af185bffffffffffffffffffffffffffffffffffffffffffffffffffffffff",
		"0e1c12ac7b5920effbd044e897c57634e2d05b5c27f8fa3df8a086a1ffffffffffffffffffffffffffffffffffffffffffffffffffffffff",
		"15141bd2121837ef71a0016bd11be757507221c26542244f23806f3fd3496b7d4c36826276f3bf5deea2c60c4fa4cec69946876da497e795",
		"455d380238434ab740a56267f4f46b7d2eb2dd8ee905e51d7b0ae8a6cb2bae501e67df34ab21fa45946068c9f233939b1d9521a998b7cb93",
		"810b1d8e8bf3a9c023294bbfd3d905a97531709bdc0f42390feedd7010f77e98686d400c9c86ed250ceecd9de0a18888ffecda0f4ea1c60d",
		"d3af9cc41be0e5de83c0c6273bedcb9351970110044a9a41c7b9b2267cdb9d7bf4dc9c2fdb8bed32878184604f1d9944305a8df4274ce301",
		"9312bcab09009e4330ff89c4bc1e9e000d863efc3c863d3b6c507a40fd2cdefde1bf0892b4b5ed9780b91ed1398fb4a7344c605aa5efda74",
		"53d11bce9e62a29d63ed82ae93761bdd76e38c21e2822d6ebee5eb1c5b8a03eaf9df749e2490eda9d8ac27d1f71150de93668074d18d1c3a",
		"697c1aed3cd8858515d4be8ac158b229fe184d79cb2b06e49210a6f3a7cd537bcd9bd390d96c4ab6a4406da5d93640726285370cfa95df80",
		"58ad48715c9a102569b68b88362a4b0645781f5a19eb7e59c6a4686fd0f0750ff42e3d7af1ab38c29d69b670f31258919c9fdbf6093d06c0",
		"8ca37ee2b15693f06e910cf43c4e32f1d5551dda8b1e48cb6ddd55e440dbc7b296b601919a4e4069f59239ca247ff693f7daa42f086122b1",
		"982c0ec7f43d9f97c0a74b36db0abd9ca6bfb98123a90782787242c8a523cdc76df14a910d54471127e7662a1059201f902940cd39d57af5",
		"baa9ab82d07ca282b968a911a6c3728d74bf2de258901925787f03ee4be7e3cb6684fd1bcfe5071a9a974ad249a4aaa8ca81264216c68574",
		"2ed9ffe2ded67a372b181ac524996402c42970629db03f5e8636cbaf6074b523d154a7a8c4472c4c353ab88cd6fec7da7780834cc5bd5242",
		"f063769e4241e76d815800e4933a3a144327a30ec40758ad3723a788388399f7b3f5d45b6351eb8eddefda7d5bff4ee920d338a8b89d8b63",
		"5a0104f1f55d152ceb68bc138182499891d90ee8f09b40038ccc1e07cb621fd462f781d045732a4f0bda73f0b2acf94355424ff0388d4b9c",
	} {
		e, f := Decode(unhex(t, s))
		refused(t, fmt.Sprint(i), e, f, api.ErrForm)
	}
}

// P14.1: Identity is the element of 0, 1, and so is an Element's zero value.
func TestIdentity(t *testing.T) {
	for _, e := range []Element{Identity(), {}, reach(t, at(0, 1)), reach(t, at(0, -1))} {
		same(t, "the identity", e, at(0, 1))
		if !Equal(e, Identity()) || !Equal(Element{}, e) {
			t.Error("an other one")
		}
	}
	if where(Identity().point()).y.Cmp(many(1)) != 0 {
		t.Error("the identity's y")
	}
}

// P14.1, P14.2: the zero value goes with all calls as the identity does.
func TestZeroValue(t *testing.T) {
	var none Element
	for _, c := range samples(t) {
		if Equal(none, c.e) != (c.s.x.Sign() == 0) || Equal(c.e, none) != (c.s.x.Sign() == 0) {
			t.Error(c.name, "Equal")
		}
		same(t, c.name+", Add", Add(none, c.e), c.s)
		same(t, c.name+", Add the other way round", Add(c.e, none), c.s)
		same(t, c.name+", Sub", Sub(none, c.e), c.s.neg())
		same(t, c.name+", Sub the other way round", Sub(c.e, none), c.s)
		same(t, c.name+", Select", Select(1, none, c.e), c.s)
		same(t, c.name+", Select of none", Select(0, none, c.e), at(0, 1))
		same(t, c.name+", Select of none, too", Select(1, c.e, none), at(0, 1))
		same(t, c.name+", Both", Both(scalar.Int(7), none, scalar.Int(1), c.e), c.s)
		same(t, c.name+", Both the other way round", Both(scalar.Int(1), c.e, scalar.Int(7), none), c.s)
		same(t, c.name+", Sum", Sum(none, none, c.e, none), c.s)
	}
	for i, e := range []Element{Neg(none), Double(none), Mul(scalar.Int(5), none), Sum(none), Sum(none, none), Add(none, none), Sub(none, none)} {
		same(t, fmt.Sprint("of none ", i), e, at(0, 1))
	}
}

// P14.1: Twice is the element of twice a point, be that twice a point or not.
func TestTwice(t *testing.T) {
	for _, q := range quarters() {
		same(t, "Twice", Twice(lay(t, q)), at(0, 1))
	}
	for _, s := range append(chance(40, 900), base()) {
		for i, q := range quarters() {
			p := lay(t, s.and(q))
			e := Twice(p)
			same(t, fmt.Sprint("Twice ", i), e, s.and(s))
			same(t, fmt.Sprint("Twice, of elements at p or more ", i), Twice(far(t, s.and(q))), s.and(s))
			a, f := Of(point.Double(p))
			if f != api.OK || !Equal(a, e) {
				t.Error(s, i, int(f))
			}
		}
	}
}

// asked holds Of of a point against whether it is to be an element's.
func asked(t testing.TB, what string, p point.Point, is bool) {
	t.Helper()
	e, f := Of(p)
	if !is {
		refused(t, what, e, f, api.ErrPoint)
		return
	}
	if f != api.OK {
		t.Error(what, int(f))
	}
	same(t, what, e, where(p))
}

// P14.1: Of twice a point, and of that and 0, -1, is its element; with 1, 0, or with -1, 0, it is ErrPoint.
func TestOf(t *testing.T) {
	for i, s := range append(chance(40, 300), base(), at(0, 1), at(1, 0)) {
		for k, q := range quarters() {
			o := s.and(s).and(q)
			asked(t, fmt.Sprint("Of ", i, k), lay(t, o), k%2 == 0)
			asked(t, fmt.Sprint("Of elements at p or more ", i, k), far(t, o), k%2 == 0)
		}
	}
	for i, c := range samples(t) {
		for k, q := range quarters() {
			asked(t, fmt.Sprint(c.name, k), point.Add(c.e.point(), lay(t, q)), k%2 == 0)
			asked(t, fmt.Sprint(c.name, i, k), lay(t, c.s.and(q)), k%2 == 0)
		}
	}
}

// P14.1: Of is ErrPoint just if the x of L times the point is not 0.
func TestOfOrder(t *testing.T) {
	evens, l := 0, chance(30, 5000)
	for i, s := range append(l, append(quarters(), base(), base().and(at(1, 0)), base().and(at(0, -1)))...) {
		is := s.mult(order()).x.Sign() == 0
		asked(t, fmt.Sprint("Of ", i), lay(t, s), is)
		if is && i < len(l) {
			evens++
		}
	}
	if evens < 4 || evens > len(l)-4 {
		t.Error(evens, "of", len(l), "are elements")
	}
}

// P14.1: what Of asks rests on this: neither d nor 1 less d is a square, and 1 less d x x and 1 less d y y are 1 less d, together multiplied.
func TestSquares(t *testing.T) {
	for _, n := range []int64{-39081, 39082, -1} {
		if big.Jacobi(many(n), modulus()) != -1 {
			t.Error(n)
		}
	}
	for _, s := range chance(20, 100) {
		under := func(x *big.Int) *big.Int { return plus(many(1), times(many(39081), x, x)) }
		if times(under(s.x), under(s.y)).Cmp(many(39082)) != 0 {
			t.Error(s)
		}
		if x := s.and(s).x; big.Jacobi(under(x), modulus()) != 1 {
			t.Error("twice", s)
		}
	}
}

// P14.1: the root of 39081, and that of 1 divided by it, are those that are not negative.
func TestRoots(t *testing.T) {
	r, f := root.Root(root.Inverse(field.Int(39081)))
	if f != api.OK || !field.Equal(overRoot(), r) || !bytes.Equal(field.Bytes(overRoot()), text(roots()[1], api.Field)) {
		t.Error("of 1 divided by 39081")
	}
	r, f = root.Root(field.Int(39081))
	if f != api.OK || !field.Equal(field.Times(overRoot(), 39081), r) || !bytes.Equal(field.Bytes(r), text(roots()[0], api.Field)) {
		t.Error("of 39081")
	}
}

// P14.1: Decode is ErrSize of all sizes but 56, whatever the bytes are.
func TestDecodeSizes(t *testing.T) {
	good := Encode(Twice(point.Base()))
	e, f := Decode(nil)
	refused(t, "nil", e, f, api.ErrSize)
	for n := range 200 {
		for i, b := range [][]byte{make([]byte, n), bytes.Repeat([]byte{255}, n), some(n, uint64(n)), bytes.Repeat(good, 4)[:n], append(bytes.Repeat([]byte{0}, n), good...)[:n]} {
			if n == api.Field {
				continue
			}
			e, f := Decode(b)
			refused(t, fmt.Sprint(n, " bytes ", i), e, f, api.ErrSize)
		}
	}
}

// decoded holds Decode of a number in 56 bytes against the chapter's words, and tells whether it is an element's.
func decoded(t testing.TB, s *big.Int) bool {
	t.Helper()
	b := text(s, api.Field)
	e, f := Decode(b)
	want, is := spread(s)
	if !is {
		refused(t, fmt.Sprintf("%x", b), e, f, api.ErrForm)
		return false
	}
	if f != api.OK {
		t.Errorf("%x: %d", b, int(f))
		return true
	}
	same(t, fmt.Sprintf("%x", b), e, want)
	if x, y := point.Affine(e.point()); number(field.Bytes(x)).Cmp(want.x) != 0 || number(field.Bytes(y)).Cmp(want.y) != 0 {
		t.Errorf("%x: the other point", b)
	}
	if !bytes.Equal(Encode(e), b) {
		t.Errorf("%x: told as %x", b, Encode(e))
	}
	return true
}

// P14.1, P14.3: Decode of the first and the last numbers below p, by the words, and told again as the same bytes; odd ones are none.
func TestDecodeNumbers(t *testing.T) {
	there := 0
	for n := range int64(300) {
		if decoded(t, big.NewInt(n)) {
			there++
			if n%2 == 1 {
				t.Error(n, "is negative")
			}
		}
		if decoded(t, less(modulus(), n+1)) {
			there++
			if n%2 == 1 { // p is odd
				t.Error("p less", n+1, "is negative")
			}
		}
	}
	if there < 100 || there > 200 {
		t.Error(there, "elements")
	}
	for _, s := range []*big.Int{
		power(447), power(446), power(224), less(power(224), 2), less(power(448), 2*65536), new(big.Int).Rsh(modulus(), 1), less(new(big.Int).Rsh(modulus(), 1), -1),
		many(39080), many(39081), many(39082), many(-39080), many(-39081), many(-39082), many(-39083), roots()[0], roots()[1], opposite(roots()[0]), base().x, base().y,
	} {
		if s.Cmp(modulus()) < 0 {
			decoded(t, s)
			decoded(t, opposite(s))
		}
	}
}

// P14.1: Decode is ErrForm of p and of all tried numbers behind it, also where what they leave, divided by p, is an element's.
func TestDecodeFromP(t *testing.T) {
	others := 0
	for n := range int64(200) {
		for _, s := range []*big.Int{less(modulus(), -n), less(power(448), n+1), less(modulus(), -n*n*n*n*n*n*n)} {
			if s.Cmp(modulus()) < 0 || s.BitLen() > 448 {
				t.Fatal(n)
			}
			if decoded(t, s) {
				t.Error(n)
			}
			if _, is := spread(left(s)); is {
				others++
			}
		}
	}
	if others < 100 {
		t.Error(others, "leave an element's")
	}
	e, f := Decode(field.P())
	refused(t, "p", e, f, api.ErrForm)
	e, f = Decode(bytes.Repeat([]byte{255}, api.Field))
	refused(t, "all ones", e, f, api.ErrForm)
}

// P14.1: Decode is ErrForm of a negative number, be it 0 less an element's or not.
func TestDecodeNegative(t *testing.T) {
	for _, c := range samples(t) {
		s := number(Encode(c.e))
		if s.Bit(0) != 0 {
			t.Error(c.name, "is told as a negative one")
		}
		if s.Sign() != 0 {
			e, f := Decode(text(opposite(s), api.Field))
			refused(t, c.name, e, f, api.ErrForm)
		}
	}
	for seed := range uint64(60) {
		if s := left(number(some(api.Field, seed))); s.Bit(0) == 1 {
			e, f := Decode(text(s, api.Field))
			refused(t, "an odd one", e, f, api.ErrForm)
		}
	}
}

// P14.1: Decode of p less 1 is ErrForm by Ratio's second alone, as x, y would be the point -1, 0; of roots of numbers about those where a part of the words would be 0 it is the words'.
func TestDecodeEdges(t *testing.T) {
	e, f := Decode(text(less(modulus(), 1), api.Field))
	refused(t, "p less 1", e, f, api.ErrForm)
	r, _ := ratio(many(1), many(39081))
	for n := int64(1); n < 40; n++ {
		for _, k := range []*big.Int{many(n), many(-n), times(r, many(n)), through(many(1), many(n)), through(many(39081), many(n))} {
			if s, is := ratio(k, many(1)); is {
				decoded(t, s)
			}
		}
	}
}

// P14.1, P14.3: Decode of an element's bytes of which a bit is turned.
func TestDecodeBits(t *testing.T) {
	for _, c := range []Element{Identity(), Twice(point.Base())} {
		s := number(Encode(c))
		for k := range 448 {
			decoded(t, new(big.Int).SetBit(s, k, 1-s.Bit(k)))
		}
	}
}

// P14.1, P14.3: Decode of any bytes, by the words.
func TestDecodeAny(t *testing.T) {
	there := 0
	for seed := range uint64(400) {
		b := some(api.Field, seed)
		if seed%4 != 0 {
			b[0] &^= 1
		}
		if decoded(t, number(b)) {
			there++
		}
	}
	if there < 90 || there > 210 {
		t.Error(there, "elements")
	}
}

// P14.1: what stands behind the bytes, in their memory, is not asked.
func TestDecodeBehind(t *testing.T) {
	b := append(Encode(Twice(point.Base())), bytes.Repeat([]byte{255}, 60)...)
	e, f := Decode(b[:api.Field])
	if f != api.OK || !Equal(e, Twice(point.Base())) {
		t.Error(int(f))
	}
	e, f = Decode(b[:api.Point])
	refused(t, "57 of them", e, f, api.ErrSize)
}

// P14.1: what Decode answers is an element: Of takes its point, and L times that has an x of 0.
func TestDecodeTwice(t *testing.T) {
	tried := 0
	for n := int64(0); n < 60; n += 2 {
		e, f := Decode(text(many(n), api.Field))
		if f != api.OK {
			continue
		}
		if _, f := Of(e.point()); f != api.OK {
			t.Error(n, int(f))
		}
		if tried < 6 && where(e.point()).mult(order()).x.Sign() != 0 {
			t.Error(n, "is not twice a point")
		}
		tried++
	}
	if tried < 6 {
		t.Error(tried)
	}
}

// P14.1: Encode, by the chapter's words, of elements made on all ways, in 56 bytes, not negative, and less than p.
func TestEncode(t *testing.T) {
	for _, c := range samples(t) {
		same(t, c.name, c.e, c.s)
		b := Encode(c.e)
		if len(b) != api.Field || b[0]&1 != 0 || number(b).Cmp(modulus()) >= 0 {
			t.Errorf("%s: %x", c.name, b)
		}
	}
	for _, s := range chance(60, 40) {
		same(t, "Encode", Twice(lay(t, s)), s.and(s))
		same(t, "Encode, of elements at p or more", Twice(far(t, s)), s.and(s))
	}
}

// P14.1, P14.3: an element's points, two of them, are told as the same bytes, wherever their elements stand; of those with a sign turned others are.
func TestEncodeBoth(t *testing.T) {
	for _, c := range samples(t) {
		b := Encode(c.e)
		turned := c.s.and(at(0, -1))
		if turned.x.Cmp(opposite(c.s.x)) != 0 || turned.y.Cmp(opposite(c.s.y)) != 0 {
			t.Fatal(c.s)
		}
		for i, s := range []spot{c.s, turned} {
			e, f := Of(far(t, s))
			if f != api.OK || !bytes.Equal(Encode(reach(t, s)), b) || !bytes.Equal(Encode(e), b) {
				t.Error(c.name, i)
			}
		}
		for i, s := range []spot{c.s.neg(), turned.neg()} {
			if bytes.Equal(Encode(reach(t, s)), b) != (c.s.x.Sign() == 0) {
				t.Error(c.name, i)
			}
		}
	}
}

// P14.2, P14.3: Equal of all pairs, either way round: just if x v is y u, and just if both are told as the same bytes.
func TestEqual(t *testing.T) {
	l := samples(t)
	var told [][]byte
	for _, c := range l {
		told = append(told, Encode(c.e))
	}
	alike := 0
	for i, c := range l {
		for k, o := range l {
			if Equal(c.e, o.e) != c.s.like(o.s) || Equal(c.e, o.e) != bytes.Equal(told[i], told[k]) {
				t.Error(c.name, o.name)
			}
			if i != k && Equal(c.e, o.e) {
				alike++
			}
		}
	}
	if alike < 20 {
		t.Error(alike, "pairs are one")
	}
}

// P14.2: Equal of an element and others that have its x, or its y, or 0 less one of them.
func TestEqualEdges(t *testing.T) {
	b := reach(t, base())
	for _, c := range samples(t) {
		one := c.s.x.Sign() == 0
		for i, e := range []Element{Add(Sub(c.e, b), b), Neg(Neg(c.e)), reach(t, c.s), reach(t, c.s.and(at(0, -1))), Select(0, c.e, b)} {
			if !Equal(e, c.e) || !Equal(c.e, e) {
				t.Error(c.name, i, "is not the same")
			}
		}
		for i, e := range []Element{reach(t, c.s.neg()), reach(t, spot{c.s.x, opposite(c.s.y)}), Neg(c.e)} {
			if Equal(e, c.e) != one || Equal(c.e, e) != one {
				t.Error(c.name, i, "turned round")
			}
		}
		if Equal(Add(c.e, b), c.e) || Equal(c.e, Sub(c.e, b)) {
			t.Error(c.name, "with the base")
		}
	}
}

// P14.2: Add and Sub of all pairs, by point's words.
func TestAdd(t *testing.T) {
	l := samples(t)
	for i, c := range l {
		for k, o := range l {
			if (i+k)%3 == 0 || i == k || i < 3 || k < 3 {
				same(t, c.name+" and "+o.name, Add(c.e, o.e), c.s.and(o.s))
				same(t, c.name+" less "+o.name, Sub(c.e, o.e), c.s.and(o.s.neg()))
			}
		}
	}
}

// P14.2: Neg and Double, by point's words.
func TestOfOne(t *testing.T) {
	for _, c := range samples(t) {
		same(t, "Neg of "+c.name, Neg(c.e), c.s.neg())
		same(t, "Double of "+c.name, Double(c.e), c.s.and(c.s))
		same(t, "Double of Double of "+c.name, Double(Double(c.e)), c.s.mult(big.NewInt(4)))
		same(t, "Add of itself, "+c.name, Add(c.e, c.e), c.s.and(c.s))
		same(t, "Sub of itself, "+c.name, Sub(c.e, c.e), at(0, 1))
		same(t, "Add of Neg, "+c.name, Add(c.e, Neg(c.e)), at(0, 1))
		same(t, "Sub of Neg, "+c.name, Sub(c.e, Neg(c.e)), c.s.and(c.s))
	}
}

// P14.2: Select of all pairs.
func TestSelect(t *testing.T) {
	l := samples(t)
	for _, c := range l {
		for _, o := range l {
			if a := Select(0, c.e, o.e); !where(a.point()).like(c.s) || !Equal(a, c.e) {
				t.Error(c.name, o.name, 0)
			}
			if a := Select(1, c.e, o.e); !where(a.point()).like(o.s) || !Equal(a, o.e) {
				t.Error(c.name, o.name, 1)
			}
		}
		same(t, c.name, Select(0, c.e, l[7].e), c.s)
		same(t, c.name, Select(1, l[7].e, c.e), c.s)
	}
}

// numbers are those at which scalars begin and end, and others.
func numbers() []*big.Int {
	l := []*big.Int{power(445), less(power(445), 1), power(440), power(224), less(power(224), 1), new(big.Int).Rsh(order(), 1), less(new(big.Int).Rsh(order(), 1), -1)}
	for n := range int64(5) {
		l = append(l, big.NewInt(n), less(order(), n+1), big.NewInt(14+n), big.NewInt(30+n))
	}
	for seed := range uint64(6) {
		l = append(l, new(big.Int).Mod(number(some(60, seed)), order()))
	}
	return l
}

// P14.2: Mul of the first numbers, each the one ahead and the element, together, and of 0 less them.
func TestMulFirst(t *testing.T) {
	for _, c := range samples(t) {
		want := Identity()
		for n := range 20 {
			if !Equal(Mul(scalar.Int(n), c.e), want) || !Equal(Mul(scalar.Int(-n), c.e), Neg(want)) {
				t.Error(n, "times", c.name)
			}
			want = Add(want, c.e)
		}
	}
}

// P14.2: Mul of numbers at both edges, and others, by point's words.
func TestMul(t *testing.T) {
	l := samples(t)
	for i, k := range numbers() {
		for n := range 2 {
			c := l[(5*i+n*6)%len(l)]
			same(t, fmt.Sprint(k, " times ", c.name), Mul(count(t, k), c.e), c.s.mult(k))
		}
	}
	for _, c := range l {
		same(t, "0 times "+c.name, Mul(scalar.Int(0), c.e), at(0, 1))
		same(t, "0, by its zero value, times "+c.name, Mul(scalar.Scalar{}, c.e), at(0, 1))
		same(t, "1 times "+c.name, Mul(scalar.Int(1), c.e), c.s)
		same(t, "L less 1 times "+c.name, Mul(count(t, less(order(), 1)), c.e), c.s.neg())
		same(t, "two halves of "+c.name, Double(Mul(scalar.Half(scalar.Int(1)), c.e)), c.s)
	}
}

// P14.2, P14.3: Mul of each bit alone.
func TestMulBits(t *testing.T) {
	e := Twice(lay(t, chance(1, 8)[0]))
	want := e
	for k := range uint(446) {
		if !Equal(Mul(count(t, power(k)), e), want) {
			t.Error("bit", k)
		}
		want = Add(want, want)
	}
}

// P14.2: Both is both multiples together, of elements that are one, or 0 less one, too.
func TestBoth(t *testing.T) {
	l, n := samples(t), numbers()
	for i, a := range n {
		for k := range 4 {
			b := n[(i*7+k*5)%len(n)]
			c, o := l[(i+k)%len(l)], l[(i*3+k*k)%len(l)]
			x, y := count(t, a), count(t, b)
			want := Add(Mul(x, c.e), Mul(y, o.e))
			if !Equal(Both(x, c.e, y, o.e), want) || !Equal(Both(y, o.e, x, c.e), want) {
				t.Error(a, c.name, b, o.name)
			}
		}
	}
	for i, c := range l {
		o := l[(i+4)%len(l)]
		same(t, "0 and 0", Both(scalar.Int(0), c.e, scalar.Int(0), o.e), at(0, 1))
		same(t, "1 and 0", Both(scalar.Int(1), c.e, scalar.Int(0), o.e), c.s)
		same(t, "0 and 1", Both(scalar.Int(0), c.e, scalar.Int(1), o.e), o.s)
		same(t, "1 and -1", Both(scalar.Int(1), c.e, scalar.Int(-1), o.e), c.s.and(o.s.neg()))
		same(t, "2 and 3", Both(scalar.Int(2), c.e, scalar.Int(3), o.e), c.s.and(c.s).and(o.s.mult(big.NewInt(3))))
		same(t, "of itself", Both(scalar.Int(5), c.e, scalar.Int(-4), c.e), c.s)
		same(t, "of Neg of it", Both(scalar.Int(5), c.e, scalar.Int(5), Neg(c.e)), at(0, 1))
	}
}

// P14.2: Sum of none, of one, of some and of many.
func TestSum(t *testing.T) {
	same(t, "none", Sum(), at(0, 1))
	same(t, "nil", Sum([]Element(nil)...), at(0, 1))
	l := samples(t)
	var all []Element
	want := at(0, 1)
	for i, c := range l {
		same(t, "one", Sum(c.e), c.s)
		same(t, "itself", Sum(c.e, c.e, c.e), c.s.mult(big.NewInt(3)))
		same(t, "Neg of it", Sum(c.e, Neg(c.e)), at(0, 1))
		all, want = append(all, c.e), want.and(c.s)
		same(t, fmt.Sprint(i+1), Sum(all...), want)
	}
	slices.Reverse(all)
	same(t, "the other way round", Sum(all...), want)
	e := Twice(point.Base())
	many := slices.Repeat([]Element{e}, 3000)
	if !Equal(Sum(many...), Mul(scalar.Int(3000), e)) {
		t.Error("of many")
	}
	for i := range 40 { // some are left out
		if i := i % 7; !Equal(Sum(many[i:40]...), Mul(scalar.Int(40-i), e)) {
			t.Error(i)
		}
	}
}

// P14.3: Encode of Decode is the bytes; Decode of Encode is Equal.
func TestRound(t *testing.T) {
	e := Identity()
	for i := range 200 {
		b := Encode(e)
		a, f := Decode(b)
		if f != api.OK || !Equal(a, e) || !bytes.Equal(Encode(a), b) {
			t.Error(i, int(f))
		}
		e = Add(e, Twice(point.Base()))
	}
	for _, c := range samples(t) {
		a, f := Decode(Encode(c.e))
		if f != api.OK || !Equal(a, c.e) || !where(a.point()).like(c.s) {
			t.Error(c.name, int(f))
		}
	}
}

// P14.3: multiples are told as others, as long as there are fewer than L.
func TestManyBytes(t *testing.T) {
	came := map[string]bool{}
	one := reach(t, base())
	e := Identity()
	for range 2000 {
		came[string(Encode(e))] = true
		e = Add(e, one)
	}
	if len(came) != 2000 {
		t.Error(len(came), "of 2000")
	}
}

// P14.3: Add goes either way, and does not hang on how three are put together; the identity turns nothing; an element and Neg of it are the identity.
func TestLaws(t *testing.T) {
	l := samples(t)
	for i, a := range l {
		if !Equal(Add(a.e, Identity()), a.e) || !Equal(Add(Identity(), a.e), a.e) || !Equal(Add(a.e, Neg(a.e)), Identity()) || !Equal(Add(Neg(a.e), a.e), Identity()) {
			t.Error(a.name)
		}
		for k, b := range l {
			if !Equal(Add(a.e, b.e), Add(b.e, a.e)) || !Equal(Sub(a.e, b.e), Neg(Sub(b.e, a.e))) || !Equal(Add(Sub(a.e, b.e), b.e), a.e) || !Equal(Sub(a.e, b.e), Add(a.e, Neg(b.e))) {
				t.Error(a.name, b.name)
			}
			for n, c := range l {
				if (i+k+n)%4 == 0 && !Equal(Add(a.e, Add(b.e, c.e)), Add(Add(a.e, b.e), c.e)) {
					t.Error(a.name, b.name, c.name)
				}
			}
		}
	}
}

// P14.2, P14.3: what is Equal stays so in all calls, whichever of its points an element is held by.
func TestEitherPoint(t *testing.T) {
	l := samples(t)
	turn := lay(t, at(0, -1))
	for i, c := range l {
		o := l[(i+3)%len(l)].e
		a, f := Of(point.Add(c.e.point(), turn))
		if f != api.OK {
			t.Fatal(int(f))
		}
		for n, pair := range [][2]Element{
			{Add(a, o), Add(c.e, o)}, {Add(o, a), Add(o, c.e)}, {Sub(a, o), Sub(c.e, o)}, {Sub(o, a), Sub(o, c.e)}, {Neg(a), Neg(c.e)}, {Double(a), Double(c.e)},
			{Mul(scalar.Int(7), a), Mul(scalar.Int(7), c.e)}, {Mul(scalar.Int(-8), a), Mul(scalar.Int(-8), c.e)},
			{Both(scalar.Int(3), a, scalar.Int(2), o), Both(scalar.Int(3), c.e, scalar.Int(2), o)}, {Sum(a, o, a), Sum(c.e, o, c.e)}, {Select(1, o, a), Select(1, o, c.e)},
		} {
			if !Equal(pair[0], pair[1]) || !bytes.Equal(Encode(pair[0]), Encode(pair[1])) {
				t.Error(c.name, n)
			}
		}
	}
}

// P14.3: L times an element is the identity, by sums alone, by Mul, and by point's words; L is prime, so that no fewer times are, but of the identity.
func TestOrder(t *testing.T) {
	if !order().ProbablyPrime(20) || !bytes.Equal(scalar.L(), text(order(), api.Point)) {
		t.Error("L")
	}
	for _, c := range samples(t) {
		out := Identity()
		for i := order().BitLen() - 1; i >= 0; i-- {
			out = Double(out)
			if order().Bit(i) == 1 {
				out = Add(out, c.e)
			}
		}
		if !Equal(out, Identity()) || !bytes.Equal(Encode(out), make([]byte, api.Field)) {
			t.Error("L times", c.name)
		}
		if !Equal(Add(Mul(scalar.Int(-1), c.e), c.e), Identity()) {
			t.Error("L less 1, and 1, times", c.name)
		}
	}
}

// P14.3: Mul of a sum is the sum of Muls, of one, or of two; Mul of a product is Mul of Mul.
func TestMulLaws(t *testing.T) {
	l, n := samples(t), numbers()
	for i, c := range l {
		o := l[(i+5)%len(l)]
		a, b := count(t, n[i%len(n)]), count(t, n[(i*3+1)%len(n)])
		if !Equal(Mul(scalar.Add(a, b), c.e), Add(Mul(a, c.e), Mul(b, c.e))) {
			t.Error(c.name, "a sum of numbers")
		}
		if !Equal(Mul(a, Add(c.e, o.e)), Add(Mul(a, c.e), Mul(a, o.e))) {
			t.Error(c.name, o.name, "a sum of elements")
		}
		if !Equal(Mul(scalar.Mul(a, b), c.e), Mul(a, Mul(b, c.e))) {
			t.Error(c.name, "a product")
		}
		if !scalar.Zero(a) && !Equal(Mul(scalar.Inverse(a), Mul(a, c.e)), c.e) {
			t.Error(c.name, "an inverse")
		}
	}
}

// call does one of the calls, told by a byte, with two elements and their points.
func call(t testing.TB, b byte, p, q sample) (sample, sample) {
	t.Helper()
	n := int64(b >> 4)
	switch b % 11 {
	case 0:
		return sample{"", Double(p.e), p.s.and(p.s)}, q
	case 1:
		return sample{"", Neg(p.e), p.s.neg()}, q
	case 2:
		return q, p
	case 3:
		return sample{"", Sub(p.e, q.e), p.s.and(q.s.neg())}, q
	case 4:
		e, f := Decode(Encode(p.e))
		if f != api.OK {
			t.Errorf("%v: %d", p.s, int(f))
		}
		return sample{"", e, p.s}, q
	case 5:
		return sample{"", Mul(scalar.Int(int(n)-8), p.e), p.s.mult(many(n)).and(p.s.neg().mult(many(8)))}, q
	case 6:
		return sample{"", Both(scalar.Int(int(n)), p.e, scalar.Int(3), q.e), p.s.mult(many(n)).and(q.s.mult(many(3)))}, q
	case 7:
		return sample{"", Sum(p.e, q.e, p.e), p.s.and(q.s).and(p.s)}, q
	case 8:
		return sample{"", Select(int(n%2), p.e, q.e), []spot{p.s, q.s}[n%2]}, q
	case 9:
		e, f := Of(point.Add(p.e.point(), lay(t, at(0, -1))))
		if f != api.OK {
			t.Errorf("%v: %d", p.s, int(f))
		}
		return sample{"", e, p.s}, q
	}
	return sample{"", Add(p.e, q.e), p.s.and(q.s)}, q
}

// P14.1, P14.2: long rows of calls, each of them of what the ones ahead answered.
func TestLongRows(t *testing.T) {
	for seed := range uint64(4) {
		s := chance(1, seed)[0]
		p, q := sample{"", Twice(lay(t, s)), s.and(s)}, sample{"", reach(t, base()), base()}
		for i, b := range some(250, seed) {
			p, q = call(t, b, p, q)
			if i%10 == 0 {
				same(t, "p", p.e, p.s)
				same(t, "q", q.e, q.s)
			}
		}
		same(t, "p", p.e, p.s)
	}
}

// R2: what is handed in stays as it is.
func TestKept(t *testing.T) {
	for n := range 120 {
		b := some(n, uint64(n))
		if n == api.Field && n%2 == 0 {
			b = Encode(Twice(point.Base()))
		}
		behind := append(slices.Clone(b), some(50, 9)...)
		was := slices.Clone(behind)
		Decode(behind[:n])
		if !bytes.Equal(behind, was) {
			t.Error(n, "bytes are others")
		}
	}
	var l []Element
	for _, c := range samples(t) {
		l = append(l, c.e)
	}
	was := slices.Clone(l)
	Sum(l[:5]...)
	Sum(l...)
	for i, e := range l {
		a, k := e, scalar.Int(i)
		Encode(a)
		Equal(a, l[0])
		Add(a, l[1])
		Sub(a, l[2])
		Neg(a)
		Double(a)
		Select(i%2, a, l[3])
		Mul(k, a)
		Both(k, a, scalar.Int(2), l[4])
		if a != e || k != scalar.Int(i) {
			t.Error(i, "is an other one")
		}
	}
	if !slices.Equal(l, was) {
		t.Error("elements are others")
	}
	p := point.Add(point.Base(), point.Base())
	q := p
	Of(p)
	Twice(p)
	if p != q {
		t.Error("a point is an other one")
	}
}

// R2: what is answered is the caller's, and shares nothing with what was handed in.
func TestOwn(t *testing.T) {
	e := Twice(point.Base())
	b := Encode(e)
	c := Encode(e)
	for i := range b {
		b[i] ^= 255
	}
	if !bytes.Equal(Encode(e), c) || bytes.Equal(b, c) {
		t.Error("bytes are shared")
	}
	l := []Element{e, Neg(e), Double(e)}
	sum := Sum(l...)
	one := Sum(l[:1]...)
	a, _ := Decode(c)
	clear(c)
	l[0], l[1], l[2] = Identity(), e, e
	if !Equal(a, e) || !Equal(sum, Double(e)) || !Equal(one, e) {
		t.Error("an element hangs on what was handed in")
	}
	x, y := Identity(), e
	x, y = Double(y), Add(x, x)
	if !Equal(Identity(), y) || Equal(x, y) {
		t.Error("Identity hangs on what was done with it")
	}
}

// answers is what calls answer of two elements and bytes.
func answers(a, b Element, n int) string {
	var l []byte
	for _, e := range []Element{Add(a, b), Sub(a, b), Neg(a), Double(a), Select(n%2, a, b), Mul(scalar.Int(n), a), Both(scalar.Int(n), a, scalar.Int(3), b), Sum(a, b, b), Identity(), Twice(b.point())} {
		l = append(l, Encode(e)...)
	}
	for _, b := range [][]byte{l[:api.Field], l[1:api.Point], l[:n]} {
		e, f := Decode(b)
		l = append(append(l, Encode(e)...), byte(f))
	}
	e, f := Of(point.Add(a.point(), point.Base()))
	return string(append(append(l, Encode(e)...), byte(f)))
}

// R3: what is answered hangs on the arguments alone, not on calls ahead, of errors, too, nor on who else calls.
func TestOneState(t *testing.T) {
	l := samples(t)
	want := make([]string, len(l))
	for i, c := range l {
		want[i] = answers(c.e, l[(i+1)%len(l)].e, i)
		if _, f := Decode(field.P()); f != api.ErrForm {
			t.Error(int(f))
		}
	}
	var wait sync.WaitGroup
	for range 4 {
		wait.Go(func() {
			for i := len(l) - 1; i >= 0; i-- {
				if answers(l[i].e, l[(i+1)%len(l)].e, i) != want[i] {
					t.Error(i, "an other answer")
				}
			}
		})
	}
	wait.Wait()
}

// R1: calls of any bits and elements end, and none panics.
func TestAny(t *testing.T) {
	for _, c := range samples(t) {
		for _, bit := range []int{-1 << 62, -2, -1, 2, 3, 1<<62 + 1} {
			Select(bit, c.e, Element{})
		}
	}
	for n := range 300 {
		b := some(n, uint64(n))
		if e, f := Decode(b); n != api.Field && f != api.ErrSize {
			t.Error(n, int(f), Encode(e))
		}
	}
}

// P14.1, P14.3: Decode of any bytes is what the chapter's words say.
func FuzzDecode(f *testing.F) {
	f.Add([]byte{})
	f.Add(make([]byte, api.Field))
	f.Add(field.P())
	f.Add(Encode(Twice(point.Base())))
	f.Add(some(api.Point, 1))
	f.Fuzz(func(t *testing.T, b []byte) {
		if len(b) == api.Field {
			decoded(t, number(b))
			return
		}
		e, g := Decode(b)
		refused(t, "bytes", e, g, api.ErrSize)
	})
}

// P14.1, P14.2: any row of calls answers what point's words do.
func FuzzCalls(f *testing.F) {
	f.Add([]byte{}, uint64(1))
	f.Add([]byte{0, 1, 2, 3, 4, 5, 6, 7, 8, 9, 10}, uint64(2))
	f.Add(some(40, 1), uint64(3))
	f.Fuzz(func(t *testing.T, calls []byte, seed uint64) {
		s := chance(1, seed)[0]
		p, q := sample{"", Twice(lay(t, s)), s.and(s)}, sample{"", reach(t, base()), base()}
		for _, b := range calls[:min(len(calls), 60)] {
			p, q = call(t, b, p, q)
			if Equal(p.e, q.e) != p.s.like(q.s) {
				t.Fatal("Equal")
			}
		}
		same(t, "p", p.e, p.s)
		same(t, "q", q.e, q.s)
	})
}

func BenchmarkOf(b *testing.B) {
	p := point.Double(point.Base())
	for b.Loop() {
		Of(p)
	}
}

func BenchmarkDecode(b *testing.B) {
	l := Encode(Twice(point.Base()))
	for b.Loop() {
		Decode(l)
	}
}

func BenchmarkEncode(b *testing.B) {
	e := Twice(point.Base())
	for b.Loop() {
		Encode(e)
	}
}

func BenchmarkEqual(b *testing.B) {
	e := Twice(point.Base())
	for b.Loop() {
		Equal(e, e)
	}
}

func BenchmarkAdd(b *testing.B) {
	e := Twice(point.Base())
	for b.Loop() {
		Add(e, e)
	}
}

func BenchmarkMul(b *testing.B) {
	e, k := Twice(point.Base()), scalar.Half(scalar.Int(1))
	for b.Loop() {
		Mul(k, e)
	}
}

func BenchmarkBoth(b *testing.B) {
	e, k := Twice(point.Base()), scalar.Half(scalar.Int(1))
	for b.Loop() {
		Both(k, e, k, e)
	}
}
