package elligator

import (
	"bytes"
	"crypto/sha3"
	"encoding/hex"
	"fmt"
	"math/big"
	"slices"
	"strings"
	"sync"
	"testing"

	"chicory/api"
	"chicory/decaf"
	"chicory/field"
	"chicory/point"
	"chicory/root"
	"chicory/scalar"
	"chicory/shake"
)

// modulus is p by an other's hand. It is made once, and nobody writes into it.
var modulus = sync.OnceValue(func() *big.Int {
	p := power(448)
	return p.Sub(p, power(224)).Sub(p, big.NewInt(1))
})

// order is L by an other's hand.
func order() *big.Int {
	l, _ := new(big.Int).SetString("13818066809895115352007386748515426880336692474882178609894547503885", 10)
	return l.Sub(power(446), l)
}

// power is 2^k.
func power(k uint) *big.Int { return new(big.Int).Lsh(big.NewInt(1), k) }

// less is x - n.
func less(x *big.Int, n int64) *big.Int { return new(big.Int).Sub(x, big.NewInt(n)) }

// left is what x leaves, divided by p, x being below 0, too.
func left(x *big.Int) *big.Int { return new(big.Int).Mod(x, modulus()) }

// many is a number from 0 to p - 1.
func many(n int64) *big.Int { return left(big.NewInt(n)) }

// times is all together multiplied, modulo p.
func times(l ...*big.Int) *big.Int {
	out := big.NewInt(1)
	for _, x := range l {
		out = left(out.Mul(out, x))
	}
	return out
}

// plus is x and y together, modulo p.
func plus(x, y *big.Int) *big.Int { return left(new(big.Int).Add(x, y)) }

// minus is x less y, modulo p.
func minus(x, y *big.Int) *big.Int { return left(new(big.Int).Sub(x, y)) }

// opposite is 0 less x, modulo p.
func opposite(x *big.Int) *big.Int { return left(new(big.Int).Neg(x)) }

// through is x divided by y, modulo p; y is not 0.
func through(x, y *big.Int) *big.Int { return times(x, new(big.Int).ModInverse(y, modulus())) }

// whole is Abs of x, by the words of package root.
func whole(x *big.Int) *big.Int {
	if x.Bit(0) == 1 {
		return opposite(x)
	}
	return x
}

// ratio is Ratio of u and v, by the words of package root.
func ratio(u, v *big.Int) (*big.Int, bool) {
	if u.Sign() == 0 || v.Sign() == 0 {
		return new(big.Int), u.Sign() == 0
	}
	q := through(u, v)
	if r := new(big.Int).ModSqrt(q, modulus()); r != nil {
		return whole(r), true
	}
	return whole(new(big.Int).ModSqrt(opposite(q), modulus())), false
}

// text is a number's bytes, so many or more, the lowest one first.
func text(x *big.Int, size int) []byte {
	b := x.FillBytes(make([]byte, max(size, (x.BitLen()+7)/8)))
	slices.Reverse(b)
	return b
}

// number is the number of bytes, the lowest one first.
func number(b []byte) *big.Int {
	b = slices.Clone(b)
	slices.Reverse(b)
	return new(big.Int).SetBytes(b)
}

// some is n bytes that are not much like each other.
func some(n int, seed uint64) []byte {
	b := make([]byte, n)
	for i := range b {
		seed = seed*6364136223846793005 + 1442695040888963407
		b[i] = byte(seed >> 56)
	}
	return b
}

// unhex is the bytes of hexadecimal digits.
func unhex(t testing.TB, s string) []byte {
	t.Helper()
	b, e := hex.DecodeString(s)
	if e != nil {
		t.Fatal(e)
	}
	return b
}

// spot is two numbers from 0 to p - 1.
type spot struct{ x, y *big.Int }

// at is the spot of two numbers.
func at(x, y int64) spot { return spot{many(x), many(y)} }

// bends is d times four numbers.
func bends(x, u, y, v *big.Int) *big.Int { return times(many(-39081), x, u, y, v) }

// flat tells whether a spot is a point's, by the words of package point.
func (s spot) flat() bool {
	return plus(times(s.x, s.x), times(s.y, s.y)).Cmp(plus(many(1), bends(s.x, s.x, s.y, s.y))) == 0
}

// and is both together, by the words of package point.
func (s spot) and(o spot) spot {
	c := bends(s.x, o.x, s.y, o.y)
	return spot{
		through(plus(times(s.x, o.y), times(s.y, o.x)), plus(many(1), c)),
		through(minus(times(s.y, o.y), times(s.x, o.x)), minus(many(1), c)),
	}
}

// mult is so many times a spot.
func (s spot) mult(k *big.Int) spot {
	out := at(0, 1)
	for i := k.BitLen() - 1; i >= 0; i-- {
		out = out.and(out)
		if k.Bit(i) == 1 {
			out = out.and(s)
		}
	}
	return out
}

// String is both numbers.
func (s spot) String() string { return fmt.Sprintf("%x, %x", s.x, s.y) }

// roots are the roots of 39081 and of 1 divided by it, by the words of package decaf.
var roots = sync.OnceValue(func() [2]*big.Int {
	r, _ := ratio(many(39081), many(1))
	o, _ := ratio(many(1), many(39081))
	return [2]*big.Int{r, o}
})

// told is the bytes of an element's spot, by the words of package decaf.
func (s spot) told() []byte {
	z := times(s.x, s.y)
	u := times(plus(s.x, z), minus(s.x, z))
	r, _ := ratio(many(1), times(many(39082), u, s.x, s.x))
	w := whole(times(r, u, roots()[0]))
	v := minus(times(roots()[1], w), z)
	return text(whole(times(many(39082), r, s.x, v)), api.Field)
}

// spread is s and the point of t, and whether Ratio's second is true, by the chapter's words.
func spread(t *big.Int) (*big.Int, spot, bool) {
	r := opposite(times(t, t))
	u := times(many(-39081), minus(r, many(1)))
	v := times(plus(u, many(1)), minus(u, r))
	q, is := ratio(many(78163), times(plus(r, many(1)), v))
	w, g := q, many(1)
	if !is {
		w, g = times(t, q), many(-1)
	}
	s := times(w, plus(r, many(1)))
	ss := times(s, s)
	x := through(times(many(2), whole(s)), plus(ss, many(1)))
	y := through(minus(ss, many(1)), plus(times(w, s, minus(r, many(1)), many(78163)), g))
	return s, spot{x, y}, is
}

// twice is what both halves of 112 bytes come to, by the chapter's words.
func twice(b []byte) spot {
	_, first, _ := spread(left(number(b[:api.Field])))
	_, other, _ := spread(left(number(b[api.Field:])))
	return first.and(other)
}

// drops are what t may be for Ratio to divide by 0: that r is -1, or u is -1, or u is r.
func drops() []*big.Int {
	l := []*big.Int{many(1)}
	for _, q := range []*big.Int{through(many(39082), many(-39081)), through(many(-39081), many(39082))} {
		r, _ := ratio(q, many(1))
		l = append(l, r)
	}
	for _, x := range slices.Clone(l) {
		l = append(l, opposite(x))
	}
	return l
}

// tries are numbers below 2^448, the first ones, the last ones, those about p, and others at which something begins or ends.
func tries() []*big.Int {
	l := append(drops(), modulus(), less(power(448), 1))
	for n := range int64(60) {
		l = append(l, big.NewInt(n), less(modulus(), n+1), less(modulus(), -n), less(power(448), n+1))
	}
	for k := range uint(448) {
		if k%7 == 0 || k > 440 || k > 220 && k < 228 {
			l = append(l, power(k), less(power(k), 1))
		}
	}
	for n := int64(1); n < 12; n++ {
		for _, k := range []*big.Int{many(n), through(many(1), many(n)), times(many(39081), many(n)), times(many(39082), many(n)), times(many(78163), many(n)), through(many(n), many(78163))} {
			r, _ := ratio(k, many(1))
			l = append(l, k, opposite(k), r, opposite(r))
		}
	}
	return l
}

// spelt holds an element of the field against a number.
func spelt(t testing.TB, what string, a field.Element, want *big.Int) {
	t.Helper()
	if b := field.Bytes(a); !bytes.Equal(b, text(want, api.Field)) {
		t.Errorf("%s: %x, not %x", what, b, text(want, api.Field))
	}
}

// parted holds Parts of a number below 2^448 against the chapter's words, and tells whether Ratio's second is true.
func parted(t testing.TB, n *big.Int) bool {
	t.Helper()
	s, x, y, e := Parts(text(n, api.Field))
	if e != api.OK {
		t.Fatalf("%x: %d", n, int(e))
	}
	want, o, is := spread(left(n))
	spelt(t, fmt.Sprintf("%x: s", n), s, want)
	spelt(t, fmt.Sprintf("%x: x", n), x, o.x)
	spelt(t, fmt.Sprintf("%x: y", n), y, o.y)
	return is
}

// same holds an element against a spot.
func same(t testing.TB, what string, a decaf.Element, want spot) {
	t.Helper()
	if b := decaf.Encode(a); !bytes.Equal(b, want.told()) {
		t.Errorf("%s: %x, not %x", what, b, want.told())
	}
}

// mapped holds Map of a number below 2^448 against the chapter's words, and answers its element.
func mapped(t testing.TB, n *big.Int) decaf.Element {
	t.Helper()
	a, e := Map(text(n, api.Field))
	if e != api.OK {
		t.Fatalf("%x: %d", n, int(e))
	}
	_, o, _ := spread(left(n))
	same(t, fmt.Sprintf("%x", n), a, o)
	return a
}

// hashed is Hash of bytes, held against the chapter's words.
func hashed(t testing.TB, b []byte) decaf.Element {
	t.Helper()
	a, e := Hash(b)
	if e != api.OK {
		t.Fatalf("%x: %d", b, int(e))
	}
	same(t, fmt.Sprintf("%x", b), a, twice(b))
	return a
}

// named is Of of a domain and pieces, held against the chapter's words, by the library's SHAKE256.
func named(t testing.TB, domain string, l ...[]byte) decaf.Element {
	t.Helper()
	a, e := Of(domain, l...)
	if e != api.OK {
		t.Fatalf("%q: %d", domain, int(e))
	}
	b := append([]byte{byte(len(domain))}, domain...)
	same(t, fmt.Sprintf("%q", domain), a, twice(sha3.SumSHAKE256(append(b, bytes.Join(l, nil)...), 2*api.Field)))
	return a
}

// refused holds an error against what it has to be; the element beside it is one.
func refused(t testing.TB, what string, a decaf.Element, e, want api.Errno) {
	t.Helper()
	if e != want {
		t.Errorf("%s: %d, not %d", what, int(e), int(want))
	}
	same(t, what, a, at(0, 1))
}

// The chapter's example.
func TestExamples(t *testing.T) {
	b, e := shake.Sum(112, []byte{1, 97})
	if e != api.OK {
		t.Fatal(int(e))
	}
	a, e := Of("a")
	c, f := Hash(b)
	if e != api.OK || f != api.OK || !decaf.Equal(a, c) || decaf.Equal(a, decaf.Identity()) {
		t.Error(int(e), int(f))
	}
}

// P15.2: the elements of RFC 9496, appendix B.3, of 112 bytes.
func TestKnown(t *testing.T) {
	for i, l := range [][2]string{
		{"cbb8c991fd2f0b7e1913462d6463e4fd2ce4ccdd28274dc2ca1f4165d5ee6cdccea57be3416e166fd06718a31af45a2f8e987e301be59ae6673e963001dbbda80df47014a21a26d6c7eb4ebe0312aa6fffb8d1b26bc62ca40ed51f8057a635a02c2b8c83f48fa6a2d70f58a1185902c0", "0c709c9607dbb01c94513358745b7c23953d03b33e39c7234e268d1d6e24f34014ccbc2216b965dd231d5327e591dc3c0e8844ccfd568848"},
		{"b6d8da654b13c3101d6634a231569e6b85961c3f4b460a08ac4a5857069576b64428676584baa45b97701be6d0b0ba18ac28d443403b45699ea0fbd1164f5893d39ad8f29e48e399aec5902508ea95e33bc1e9e4620489d684eb5c26bc1ad1e09aba61fabc2cdfee0b6b6862ffc8e55a", "76ab794e28ff1224c727fa1016bf7f1d329260b7218a39aea2fdb17d8bd9119017b093d641cedf74328c327184dc6f2a64bd90eddccfcdab"},
		{"36a69976c3e5d74e4904776993cbac27d10f25f5626dd45c51d15dcf7b3e6a5446a6649ec912a56895d6baa9dc395ce9e34b868d9fb2c1fc72eb6495702ea4f446c9b7a188a4e0826b1506b0747a6709f37988ff1aeb5e3788d5076ccbb01a4bc6623c92ff147a1e21b29cc3fdd0e0f4", "c8d7ac384143500e50890a1c25d643343accce584caf2544f9249b2bf4a6921082be0e7f3669bb5ec24535e6c45621e1f6dec676edd8b664"},
		{"d5938acbba432ecd5617c555a6a777734494f176259bff9dab844c81aadcf8f7abd1a9001d89c7008c1957272c1786a4293bb0ee7cb37cf3988e2513b14e1b75249a5343643d3c5e5545a0c1a2a4d3c685927c38bc5e5879d68745464e2589e000b31301f1dfb7471a4f1300d6fd0f99", "62beffc6b8ee11ccd79dbaac8f0252c750eb052b192f41eeecb12f2979713b563caf7d22588eca5e80995241ef963e7ad7cb7962f343a973"},
		{"4dec58199a35f531a5f0a9f71a53376d7b4bdd6bbd2904234a8ea65bbacbce2a542291378157a8f4be7b6a092672a34d85e473b26ccfbd4cdc6739783dc3f4f6ee3537b7aed81df898c7ea0ae89a15b5559596c2a5eeacf8b2b362f3db2940e3798b63203cae77c4683ebaed71533e51", "f4ccb31d263731ab88bed634304956d2603174c66da38742053fa37dd902346c3862155d68db63be87439e3d68758ad7268e239d39c4fd3b"},
		{"df2aa1536abb4acab26efa538ce07fd7bca921b13e17bc5ebcba7d1b6b733deda1d04c220f6b5ab35c61b6bcb15808251cab909a01465b8ae3fc770850c66246d5a9eae9e2877e0826e2b8dc1bc08009590bc6778a84e919fbd28e02a0f9c49b48dc689eb5d5d922dc01469968ee81b5", "7e79b00e8e0a76a67c0040f62713b8b8c6d6f05e9c6d02592e8a22ea896f5deacc7c7df5ed42beae6fedb9000285b482aa504e279fd49c32"},
		{"e9fb440282e07145f1f7f5ecf3c273212cd3d26b836b41b02f108431488e5e84bd15f2418b3d92a3380dd66a374645c2a995976a015632d36a6c2189f202fc766e1c82f50ad9189be190a1f0e8f9b9e69c9c18cc98fdd885608f68bf0fdedd7b894081a63f70016a8abf04953affbefa", "20b171cb16be977f15e013b9752cf86c54c631c4fc8cbf7c03c4d3ac9b8e8640e7b0e9300b987fe0ab5044669314f6ed1650ae037db853f1"},
	} {
		if b := decaf.Encode(hashed(t, unhex(t, l[0]))); !bytes.Equal(b, unhex(t, l[1])) {
			t.Errorf("%d: %x", i, b)
		}
	}
}

// P15.1: Parts of the numbers at which something begins or ends, those of p and more leaving what they do, divided by p.
func TestParts(t *testing.T) {
	squares, l := 0, tries()
	for _, n := range l {
		if parted(t, n) {
			squares++
		}
	}
	if squares < 100 || squares > len(l)-100 {
		t.Error(squares, "of", len(l))
	}
}

// P15.1: Parts of any bytes, and that s is negative as often as not, with both of Ratio's seconds.
func TestPartsAny(t *testing.T) {
	seen := map[[2]bool]int{}
	for seed := range uint64(600) {
		b := some(api.Field, seed)
		is := parted(t, number(b))
		s, _, _, _ := Parts(b)
		seen[[2]bool{is, root.Negative(s)}]++
	}
	for _, is := range []bool{false, true} {
		for _, negative := range []bool{false, true} {
			if n := seen[[2]bool{is, negative}]; n < 90 {
				t.Error(is, negative, n)
			}
		}
	}
}

// P15.1: each bit of the 56 bytes counts.
func TestPartsBits(t *testing.T) {
	for _, n := range []*big.Int{big.NewInt(0), number(some(api.Field, 3)), less(power(448), 1)} {
		for k := range 448 {
			parted(t, new(big.Int).SetBit(n, k, 1-n.Bit(k)))
		}
	}
}

// P15.1: what p and numbers behind it are told of are the parts of what they leave.
func TestPartsFromP(t *testing.T) {
	for n := range int64(40) {
		s, x, y, e := Parts(text(less(modulus(), -n), api.Field))
		o, u, v, f := Parts(text(many(n), api.Field))
		if e != api.OK || f != api.OK || !field.Equal(s, o) || !field.Equal(x, u) || !field.Equal(y, v) {
			t.Error(n, int(e), int(f))
		}
	}
	for n := range int64(40) {
		parted(t, less(power(448), n+1))
		parted(t, less(less(power(448), n*n*n), 2))
		parted(t, less(modulus(), -n*n*n*n*n*n*n))
	}
}

// P15.1: Parts is ErrSize of all sizes but 56, whatever the bytes are, and answers noughts beside it.
func TestPartsSizes(t *testing.T) {
	for n := -1; n < 200; n++ {
		if n == api.Field {
			continue
		}
		for i, b := range [][]byte{nil, some(max(n, 0), 5), bytes.Repeat([]byte{255}, max(n, 0))} {
			if n >= 0 && i == 0 {
				b = make([]byte, n)
			}
			s, x, y, e := Parts(b)
			if none := (field.Element{}); e != api.ErrSize || s != none || x != none || y != none {
				t.Error(n, i, int(e))
			}
		}
	}
}

// P15.1: where Ratio divides by 0 s is 0, and so it is of t 0: the point is 0, 1.
func TestPartsNought(t *testing.T) {
	for _, n := range append(drops(), many(0), modulus(), less(modulus(), -1)) {
		s, x, y, e := Parts(text(n, api.Field))
		if e != api.OK || !field.Zero(s) || !field.Zero(x) || !field.Equal(y, field.Int(1)) {
			t.Errorf("%x: %d", n, int(e))
		}
		parted(t, n)
		if a := mapped(t, n); !decaf.Equal(a, decaf.Identity()) {
			t.Errorf("%x", n)
		}
	}
	for i, n := range drops() {
		r := opposite(times(n, n))
		u := times(many(-39081), minus(r, many(1)))
		if times(plus(r, many(1)), plus(u, many(1)), minus(u, r)).Sign() != 0 {
			t.Error(i)
		}
	}
}

// P15.1: of other numbers s is not 0, and x is not.
func TestPartsOthers(t *testing.T) {
	for seed := range uint64(100) {
		s, x, y, e := Parts(some(api.Field, seed))
		if e != api.OK || field.Zero(s) || field.Zero(x) || field.Zero(y) {
			t.Error(seed, int(e))
		}
	}
}

// P15.1: x, y is a point, and an element's: L times it has an x of 0.
func TestPartsPoints(t *testing.T) {
	for i, n := range tries() {
		_, x, y, _ := Parts(text(n, api.Field))
		p, e := point.Of(x, y)
		if e != api.OK {
			t.Fatal(i, int(e))
		}
		if _, e := decaf.Of(p); e != api.OK {
			t.Error(i, int(e))
		}
		if o := (spot{number(field.Bytes(x)), number(field.Bytes(y))}); !o.flat() || i%40 == 0 && o.mult(order()).x.Sign() != 0 {
			t.Error(i, o)
		}
	}
}

// P15.1: that none that divides is 0 rests on this: neither -1 nor c, d (d less 1), is a square, and a multiple of what y is divided by, times v, is a square less c times a square that is not 0.
func TestDividing(t *testing.T) {
	c := times(many(-39081), many(-39082))
	for _, n := range []*big.Int{many(-1), c} {
		if big.Jacobi(n, modulus()) != -1 {
			t.Error(n)
		}
	}
	for seed := range uint64(60) {
		n := left(number(some(api.Field, seed)))
		r := opposite(times(n, n))
		z := minus(r, many(1))
		u := times(many(-39081), z)
		v := times(plus(u, many(1)), minus(u, r))
		s, _, is := spread(n)
		multiple, behind, g := c, times(many(2), c), many(1)
		if !is {
			multiple, behind, g = plus(times(many(3), c), many(1)), plus(times(many(2), c), many(1)), many(-1)
		}
		w := through(s, plus(r, many(1)))
		divides := plus(times(w, s, z, many(78163)), g)
		square := plus(times(multiple, z), behind)
		if times(multiple, v, divides).Cmp(minus(times(square, square), times(c, many(78163), many(78163)))) != 0 {
			t.Error(seed, is)
		}
	}
}

// P15.1: Map of the numbers at which something begins or ends.
func TestMap(t *testing.T) {
	for _, n := range tries() {
		mapped(t, n)
	}
}

// P15.1: Map of any bytes is an element, never ErrPoint, and is that of Parts' x and y.
func TestMapAny(t *testing.T) {
	for seed := range uint64(700) {
		b := some(api.Field, seed+1<<40)
		a, e := Map(b)
		_, x, y, _ := Parts(b)
		p, f := point.Of(x, y)
		if e != api.OK || f != api.OK {
			t.Fatal(seed, int(e), int(f))
		}
		c, f := decaf.Of(p)
		if f != api.OK || !decaf.Equal(a, c) {
			t.Error(seed, int(f))
		}
		if seed%8 == 0 {
			mapped(t, number(b))
		}
	}
}

// P15.1: Map is ErrSize of all sizes but 56, whatever the bytes are.
func TestMapSizes(t *testing.T) {
	a, e := Map(nil)
	refused(t, "nil", a, e, api.ErrSize)
	for n := range 200 {
		if n == api.Field {
			continue
		}
		for i, b := range [][]byte{make([]byte, n), bytes.Repeat([]byte{255}, n), some(n, uint64(n))} {
			a, e := Map(b)
			refused(t, fmt.Sprint(n, " bytes ", i), a, e, api.ErrSize)
		}
	}
}

// P15.1: what stands behind the bytes, in their memory, is not asked.
func TestBehind(t *testing.T) {
	b := bytes.Repeat([]byte{255}, 300)
	copy(b, some(112, 6))
	a, e := Map(b[:56])
	c, f := Hash(b[:112])
	if e != api.OK || f != api.OK {
		t.Error(int(e), int(f))
	}
	_, o, _ := spread(left(number(b[:56])))
	same(t, "Map", a, o)
	same(t, "Hash", c, twice(b[:112]))
	a, e = Map(b[:57])
	refused(t, "57 of them", a, e, api.ErrSize)
	a, e = Hash(b[:113])
	refused(t, "113 of them", a, e, api.ErrSize)
}

// P15.3: t, and 0 less t, have one point; their s are the same, if Ratio's second is true, else one is 0 less the other.
func TestOpposite(t *testing.T) {
	for i, n := range tries() {
		n = left(n)
		s, x, y, e := Parts(text(n, api.Field))
		o, u, v, f := Parts(text(opposite(n), api.Field))
		if e != api.OK || f != api.OK || !field.Equal(x, u) || !field.Equal(y, v) {
			t.Error(i, int(e), int(f))
		}
		if _, _, is := spread(n); !is {
			o = field.Neg(o)
		}
		if !field.Equal(s, o) {
			t.Error(i, "s")
		}
		if i%5 == 0 && !decaf.Equal(mapped(t, n), mapped(t, opposite(n))) {
			t.Error(i, "two elements")
		}
	}
}

// P15.1: other numbers than t and 0 less t have other elements, but for few.
func TestApart(t *testing.T) {
	seen := map[string]int{}
	for n := range int64(400) {
		a, e := Map(text(many(n), api.Field))
		if e != api.OK {
			t.Fatal(n, int(e))
		}
		seen[string(decaf.Encode(a))]++
	}
	if len(seen) < 395 || seen[string(make([]byte, api.Field))] != 2 { // of 0 and 1
		t.Error(len(seen))
	}
}

// P15.2: Hash is both halves' elements together, whatever leaves these, and the other way round, too.
func TestHash(t *testing.T) {
	l := tries()
	for i, n := range l {
		m := l[(i*7+1)%len(l)]
		b, c := text(n, api.Field), text(m, api.Field)
		a := hashed(t, slices.Concat(b, c))
		if o, e := Hash(slices.Concat(c, b)); e != api.OK || !decaf.Equal(a, o) {
			t.Error(i, int(e))
		}
		if i%4 != 0 {
			continue
		}
		first, _ := Map(b)
		other, _ := Map(c)
		if !decaf.Equal(a, decaf.Add(first, other)) {
			t.Error(i, "is not both together")
		}
		if o := hashed(t, slices.Concat(b, b)); !decaf.Equal(o, decaf.Double(first)) {
			t.Error(i, "is not twice the first")
		}
		if o := hashed(t, append(slices.Clone(b), make([]byte, api.Field)...)); !decaf.Equal(o, first) {
			t.Error(i, "is not the first alone")
		}
		if o := hashed(t, append(make([]byte, api.Field), c...)); !decaf.Equal(o, other) {
			t.Error(i, "is not the other alone")
		}
	}
}

// P15.2: Hash of any bytes.
func TestHashAny(t *testing.T) {
	for seed := range uint64(200) {
		hashed(t, some(112, seed+1<<50))
	}
	if a := hashed(t, make([]byte, 112)); !decaf.Equal(a, decaf.Identity()) {
		t.Error("of noughts")
	}
	hashed(t, bytes.Repeat([]byte{255}, 112))
}

// P15.2: each bit of the 112 bytes counts.
func TestHashBits(t *testing.T) {
	b := some(112, 77)
	a := hashed(t, b)
	for k := range 8 * len(b) {
		b[k/8] ^= 1 << (k % 8)
		o, e := Hash(b)
		if e != api.OK || decaf.Equal(a, o) {
			t.Error(k, int(e))
		}
		b[k/8] ^= 1 << (k % 8)
	}
}

// P15.2: Hash is ErrSize of all sizes but 112, whatever the bytes are; of 56, too.
func TestHashSizes(t *testing.T) {
	a, e := Hash(nil)
	refused(t, "nil", a, e, api.ErrSize)
	for n := range 350 {
		if n == 112 {
			continue
		}
		for i, b := range [][]byte{make([]byte, n), bytes.Repeat([]byte{255}, n), some(n, uint64(n))} {
			a, e := Hash(b)
			refused(t, fmt.Sprint(n, " bytes ", i), a, e, api.ErrSize)
		}
	}
}

// P15.2: Of, of domains of all sizes that may be, with and without pieces, by the library's SHAKE256.
func TestOf(t *testing.T) {
	for n := range 256 {
		domain := string(some(n, uint64(n)))
		a := named(t, domain)
		if n%9 == 0 || n > 250 {
			c := named(t, domain, some(3*n, 4))
			if decaf.Equal(a, c) != (n == 0) {
				t.Error(n, "bytes do not count")
			}
			named(t, domain, some(n, 1), nil, some(136, 2), []byte{}, some(1, 3))
		}
	}
	b, _ := shake.Sum(112, []byte{0})
	if a, c := named(t, ""), hashed(t, b); !decaf.Equal(a, c) || decaf.Equal(a, decaf.Identity()) {
		t.Error("of no domain")
	}
}

// P15.2: Of is ErrLong of a domain of more than 255 bytes, by whatever words, with pieces or without.
func TestOfLong(t *testing.T) {
	for _, n := range []int{256, 257, 300, 511, 512, 513, 65536, 70000} {
		for i, domain := range []string{strings.Repeat("a", n), string(make([]byte, n)), string(some(n, 8))} {
			for k, l := range [][][]byte{nil, {}, {nil}, {some(9, 1)}, {some(9, 1), some(300, 2)}} {
				a, e := Of(domain, l...)
				refused(t, fmt.Sprint(n, i, k), a, e, api.ErrLong)
			}
		}
	}
	for _, c := range []struct {
		domain string
		want   api.Errno
	}{
		{strings.Repeat("é", 127), api.OK}, {strings.Repeat("é", 127) + "e", api.OK}, {strings.Repeat("é", 128), api.ErrLong},
		{strings.Repeat("\xff", 255), api.OK}, {strings.Repeat("\xff", 256), api.ErrLong}, {strings.Repeat("菊", 85), api.OK}, {strings.Repeat("菊", 86), api.ErrLong},
	} {
		a, e := Of(c.domain)
		if e != c.want {
			t.Errorf("%q: %d", c.domain, int(e))
		}
		if e == api.OK {
			named(t, c.domain)
			continue
		}
		refused(t, c.domain, a, e, api.ErrLong)
	}
}

// P15.2: it does not count how what comes behind the domain is cut.
func TestOfPieces(t *testing.T) {
	b := some(400, 12)
	want := named(t, "salad", b)
	for i := range len(b) + 1 {
		a, e := Of("salad", b[:i], b[i:])
		if e != api.OK || !decaf.Equal(a, want) {
			t.Error(i, int(e))
		}
	}
	for _, n := range []int{1, 2, 3, 56, 112, 129, 130, 131, 136, 399} {
		l := slices.Collect(slices.Chunk(b, n))
		named(t, "salad", l...)
		for range 3 {
			l = append(l, nil)
			l = append([][]byte{{}}, l...)
		}
		a, e := Of("salad", l...)
		if e != api.OK || !decaf.Equal(a, want) {
			t.Error(n, int(e))
		}
	}
	if a, c := named(t, "salad"), named(t, "salad", nil, []byte{}); !decaf.Equal(a, c) {
		t.Error("pieces of nothing")
	}
	l := make([][]byte, 3000)
	for i := range l {
		l[i] = some(i%5, uint64(i))
	}
	named(t, "salad", l...)
	named(t, "salad", some(200000, 1), some(65537, 2))
}

// P15.2: what is the domain's and what is the pieces' counts, and so does each byte, and their order.
func TestOfDomain(t *testing.T) {
	seen := map[string]string{}
	for _, c := range []struct {
		domain string
		l      []string
	}{
		{"", nil}, {"", []string{"chicory"}}, {"c", []string{"hicory"}}, {"chi", []string{"cory"}}, {"chicory", nil},
		{"", []string{"\x07chicory"}}, {"\x07chicory", nil}, {"\x07", []string{"chicory"}}, {"chicorx", nil}, {"Chicory", nil},
		{"cory", []string{"chi"}}, {"chi", []string{"coryy"}}, {"chi", []string{"ycor"}}, {"\x00", nil}, {"\x00\x00", nil}, {"", []string{"\x00"}}, {"\x00", []string{"\x00"}},
		{"chi", []string{"co", "r"}}, {"chi", []string{"r", "co"}},
	} {
		var l [][]byte
		for _, p := range c.l {
			l = append(l, []byte(p))
		}
		at := string(decaf.Encode(named(t, c.domain, l...)))
		if was, is := seen[at]; is {
			t.Errorf("%q, %q is %s", c.domain, c.l, was)
		}
		seen[at] = fmt.Sprintf("%q, %q", c.domain, c.l)
	}
}

// P15.3: what is answered is encoded and decoded, and L times it is the identity.
func TestElements(t *testing.T) {
	var l []decaf.Element
	for i, n := range tries() {
		if i%6 != 0 {
			continue
		}
		a, _ := Map(text(n, api.Field))
		b, _ := Hash(slices.Concat(text(n, api.Field), some(api.Field, uint64(i))))
		c, _ := Of(fmt.Sprint(i), text(n, api.Field))
		l = append(l, a, b, c)
	}
	last := scalar.Int(-1) // L less 1
	if k := number(scalar.Bytes(last)); k.Cmp(less(order(), 1)) != 0 {
		t.Fatal(k)
	}
	for i, a := range l {
		c, e := decaf.Decode(decaf.Encode(a))
		if e != api.OK || !decaf.Equal(a, c) {
			t.Error(i, int(e))
		}
		if !decaf.Equal(decaf.Add(decaf.Mul(last, a), a), decaf.Identity()) {
			t.Error(i, "L times it")
		}
		if i > 2 && i%3 != 0 && decaf.Equal(a, decaf.Identity()) {
			t.Error(i, "is the identity")
		}
	}
}

// P15.3: elements go on as others do: what Hash answers is what is put together, taken away and multiplied.
func TestCalls(t *testing.T) {
	for seed := range uint64(20) {
		b, c := some(api.Field, seed), some(api.Field, seed+100)
		a, o, both := mapped(t, number(b)), mapped(t, number(c)), hashed(t, slices.Concat(b, c))
		if !decaf.Equal(decaf.Sub(both, o), a) || !decaf.Equal(decaf.Both(scalar.Int(3), both, scalar.Int(-3), o), decaf.Mul(scalar.Int(3), a)) {
			t.Error(seed)
		}
	}
}

// R2: what is handed in stays as it is, and so does what stands behind it.
func TestKept(t *testing.T) {
	for _, n := range []int{0, 1, 55, 56, 57, 111, 112, 113, 200} {
		b := some(n+60, uint64(n))
		was := slices.Clone(b)
		Parts(b[:n])
		Map(b[:n])
		Hash(b[:n])
		Of("salad", b[:n])
		Of("salad", b[:n], b[n:n+1])
		Of(strings.Repeat("a", 300), b[:n])
		if !bytes.Equal(b, was) {
			t.Error(n, "bytes are others")
		}
	}
	room := [][]byte{some(3, 1), some(4, 2), some(5, 3), some(6, 4)}
	was := slices.Clone(room)
	Of("salad", room[:2]...)
	Of("salad", room[:2:2]...)
	Of("", room...)
	for i, b := range room {
		if !bytes.Equal(b, was[i]) || &b[0] != &was[i][0] {
			t.Error(i, "is an other piece")
		}
	}
}

// R2: what is answered does not hang on what becomes of what was handed in.
func TestOwn(t *testing.T) {
	b := some(112, 5)
	want := twice(b)
	a, _ := Hash(b)
	c, _ := Map(b[:56])
	s, x, y, _ := Parts(b[:56])
	_, o, _ := spread(left(number(b[:56])))
	l := [][]byte{some(5, 1), some(6, 2)}
	d := named(t, "salad", l...)
	told := decaf.Encode(d)
	clear(b)
	clear(l[0])
	l[1] = nil
	same(t, "Hash", a, want)
	same(t, "Map", c, o)
	spelt(t, "x", x, o.x)
	spelt(t, "y", y, o.y)
	if field.Zero(s) || !bytes.Equal(decaf.Encode(d), told) {
		t.Error("hangs on what was handed in")
	}
}

// answers is what calls answer of bytes.
func answers(n int) string {
	var l []byte
	note := func(a decaf.Element, e api.Errno) { l = append(append(l, decaf.Encode(a)...), byte(e)) }
	b := some(112, uint64(n))
	s, x, y, e := Parts(b[:56])
	l = append(slices.Concat(field.Bytes(s), field.Bytes(x), field.Bytes(y)), byte(e))
	note(Map(b[56:]))
	note(Hash(b))
	note(Of(string(b[:n]), b[n:], b))
	note(Map(b[:n]))
	note(Hash(b[:n]))
	note(Of(strings.Repeat("a", 200+10*n)))
	return string(l)
}

// R3: what is answered hangs on the arguments alone, not on calls ahead, of errors, too, nor on who else calls.
func TestOneState(t *testing.T) {
	want := make([]string, 20)
	for i := range want {
		want[i] = answers(i)
	}
	var wait sync.WaitGroup
	for range 4 {
		wait.Go(func() {
			for i := len(want) - 1; i >= 0; i-- {
				if answers(i) != want[i] {
					t.Error(i, "an other answer")
				}
			}
		})
	}
	wait.Wait()
}

// R1: calls of bytes of any size end, and none panics.
func TestAny(t *testing.T) {
	for n := range 400 {
		b := some(n, uint64(n))
		Parts(b)
		Map(b)
		Hash(b)
		Of(string(b), b, nil, b)
	}
	Parts(nil)
	Map(nil)
	Hash(nil)
	Of("", nil...)
	Of("", [][]byte{}...)
	big := make([]byte, 1<<20)
	Parts(big)
	Map(big)
	Hash(big)
	Of(string(big), big)
}

// P15.1, P15.3: Map of any bytes is what the chapter's words say.
func FuzzMap(f *testing.F) {
	f.Add([]byte{})
	f.Add(make([]byte, api.Field))
	f.Add(field.P())
	f.Add(some(api.Point, 1))
	for _, n := range drops() {
		f.Add(text(n, api.Field))
	}
	f.Fuzz(func(t *testing.T, b []byte) {
		if len(b) != api.Field {
			a, e := Map(b)
			refused(t, "bytes", a, e, api.ErrSize)
			return
		}
		parted(t, number(b))
		mapped(t, number(b))
	})
}

// P15.2: Hash of any bytes is what the chapter's words say.
func FuzzHash(f *testing.F) {
	f.Add([]byte{})
	f.Add(make([]byte, 112))
	f.Add(slices.Concat(field.P(), some(api.Field, 2)))
	f.Add(some(113, 1))
	f.Fuzz(func(t *testing.T, b []byte) {
		if len(b) == 112 {
			hashed(t, b)
			return
		}
		a, e := Hash(b)
		refused(t, "bytes", a, e, api.ErrSize)
	})
}

// P15.2: Of any domain and pieces is what the chapter's words say.
func FuzzOf(f *testing.F) {
	f.Add("", []byte{}, uint(0))
	f.Add("a", []byte{}, uint(0))
	f.Add(strings.Repeat("a", 255), []byte("bytes"), uint(3))
	f.Add(strings.Repeat("a", 256), []byte("bytes"), uint(2))
	f.Fuzz(func(t *testing.T, domain string, b []byte, cut uint) {
		if len(domain) > 255 {
			a, e := Of(domain, b)
			refused(t, "a long one", a, e, api.ErrLong)
			return
		}
		i := int(cut % uint(len(b)+1))
		if !decaf.Equal(named(t, domain, b), named(t, domain, b[:i], b[i:])) {
			t.Error(i)
		}
	})
}

func BenchmarkParts(b *testing.B) {
	l := some(api.Field, 1)
	for b.Loop() {
		Parts(l)
	}
}

func BenchmarkMap(b *testing.B) {
	l := some(api.Field, 1)
	for b.Loop() {
		Map(l)
	}
}

func BenchmarkHash(b *testing.B) {
	l := some(112, 1)
	for b.Loop() {
		Hash(l)
	}
}

func BenchmarkOf(b *testing.B) {
	l := some(100, 1)
	for b.Loop() {
		Of("salad", l)
	}
}
