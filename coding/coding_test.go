package coding

import (
	"bytes"
	"encoding/hex"
	"math/big"
	"slices"
	"sync"
	"testing"

	"chicory/api"
	"chicory/field"
	"chicory/point"
	"chicory/root"
	"chicory/scalar"
	"chicory/shake"
)

// modulus is p by an other's hand.
func modulus() *big.Int {
	p := power(448)
	return p.Sub(p, power(224)).Sub(p, big.NewInt(1))
}

// power is 2^k.
func power(k uint) *big.Int { return new(big.Int).Lsh(big.NewInt(1), k) }

// less is x - n.
func less(x *big.Int, n int64) *big.Int { return new(big.Int).Sub(x, big.NewInt(n)) }

// left is what x leaves, divided by p, x being below 0, too.
func left(x *big.Int) *big.Int { return new(big.Int).Mod(x, modulus()) }

// times is all together multiplied, modulo p.
func times(l ...*big.Int) *big.Int {
	out := big.NewInt(1)
	for _, x := range l {
		out = left(out.Mul(out, x))
	}
	return out
}

// minus is x less y, modulo p.
func minus(x, y *big.Int) *big.Int { return left(new(big.Int).Sub(x, y)) }

// neg is 0 less x, modulo p.
func neg(x *big.Int) *big.Int { return left(new(big.Int).Neg(x)) }

// text is a number's bytes, so many or more, the lowest one first.
func text(x *big.Int, size int) []byte {
	b := x.FillBytes(make([]byte, max(size, (x.BitLen()+7)/8)))
	slices.Reverse(b)
	return b
}

// number is the number of bytes, the lowest one first.
func number(b []byte) *big.Int {
	b = slices.Clone(b)
	slices.Reverse(b)
	return new(big.Int).SetBytes(b)
}

// some is n bytes that are not much like each other.
func some(n int, seed uint64) []byte {
	b := make([]byte, n)
	for i := range b {
		seed = seed*6364136223846793005 + 1442695040888963407
		b[i] = byte(seed >> 56)
	}
	return b
}

// spot is a point's two numbers, from 0 to p - 1.
type spot struct{ x, y *big.Int }

// at is the spot of two numbers.
func at(x, y int64) spot { return spot{left(big.NewInt(x)), left(big.NewInt(y))} }

// code is a spot's bytes, by the words of P9.1.
func (s spot) code() []byte {
	b := append(text(s.y, api.Field), 0)
	if s.x.Bit(0) == 1 {
		b[api.Field] = 128
	}
	return b
}

// neg is 0 less x, y.
func (s spot) neg() spot { return spot{neg(s.x), s.y} }

// squared is what x x has to be of a y: y y - 1 divided by d y y - 1.
func squared(y *big.Int) *big.Int {
	below := less(times(big.NewInt(-39081), y, y), 1)
	return times(less(times(y, y), 1), new(big.Int).ModInverse(left(below), modulus()))
}

// asked is the spot of bytes, and the error, by the words of P9.2 and P9.3.
func asked(b []byte) (spot, api.Errno) {
	if len(b) != 57 {
		return spot{}, api.ErrSize
	}
	y, last := number(b[:56]), b[56]
	if last != 0 && last != 128 || y.Cmp(modulus()) >= 0 {
		return spot{}, api.ErrPoint
	}
	xx := squared(y)
	if big.Jacobi(xx, modulus()) == -1 || xx.Sign() == 0 && last != 0 {
		return spot{}, api.ErrPoint
	}
	x := new(big.Int).ModSqrt(xx, modulus())
	if byte(x.Bit(0)) != last>>7 {
		x = neg(x)
	}
	return spot{x, y}, api.OK
}

// base is the base of point's chapter.
func base() spot {
	x, _ := new(big.Int).SetString("4f1970c66bed0ded221d15a622bf36da9e146570470f1767ea6de324a3d3a46412ae1af72ab66511433b80e18b00938e2626a82bc70cc05e", 16)
	y, _ := new(big.Int).SetString("693f46716eb6bc248876203756c9c7624bea73736ca3984087789c1e05a0c2d73ad3ff1ce67c39c4fdbd132c4ed7c8ad9808795bf230fa14", 16)
	return spot{x, y}
}

// quarters are the points of which four times is the identity.
func quarters() []spot { return []spot{at(0, 1), at(1, 0), at(0, -1), at(-1, 0)} }

// chance are n points of no one's choice: of y from a seed on, those that have an x, both of them.
func chance(n int, seed uint64) []spot {
	var out []spot
	for ; len(out) < n; seed++ {
		y := left(number(some(api.Field, seed)))
		if x := new(big.Int).ModSqrt(squared(y), modulus()); x != nil {
			out = append(out, spot{x, y}, spot{x, y}.neg())
		}
	}
	return out[:n]
}

// spots are points at which there is something to be asked, and others.
func spots() []spot {
	l := quarters()
	for _, s := range append(chance(40, 700), base()) {
		l = append(l, s, s.neg(), spot{s.y, s.x}, spot{s.x, neg(s.y)}, spot{neg(s.y), neg(s.x)})
	}
	return l
}

// of is the element of a number below 2^448, whose limbs stand where the number does, at p or more, too.
func of(t testing.TB, x *big.Int) field.Element {
	t.Helper()
	a, e := field.Of(text(x, api.Field))
	if e != api.OK {
		t.Fatal(int(e))
	}
	return a
}

// reach is a spot's point.
func reach(t testing.TB, s spot) point.Point {
	t.Helper()
	p, e := point.Of(of(t, s.x), of(t, s.y))
	if e != api.OK {
		t.Fatalf("%x, %x: %d", s.x, s.y, int(e))
	}
	return p
}

// far is a spot's point, of elements that stand at p or more, where there is room for it, or were made of such ones.
func far(t testing.TB, s spot) point.Point {
	t.Helper()
	up := func(x *big.Int) field.Element {
		if y := new(big.Int).Add(x, modulus()); y.BitLen() <= 448 {
			return of(t, y)
		}
		top := of(t, less(power(448), 1))
		return field.Sub(field.Add(of(t, x), top), top)
	}
	p, e := point.Of(up(s.x), up(s.y))
	if e != api.OK {
		t.Fatalf("%x, %x: %d", s.x, s.y, int(e))
	}
	return p
}

// ways is a spot's point, made on many ways.
func ways(t testing.TB, s spot) []point.Point {
	t.Helper()
	p, b := reach(t, s), point.Base()
	return []point.Point{
		p, far(t, s), point.Add(p, point.Identity()), point.Add(point.Identity(), far(t, s)), point.Neg(point.Neg(p)),
		point.Add(point.Add(p, b), point.Neg(b)), point.Add(point.Double(b), point.Add(p, point.Neg(point.Add(b, b)))),
		point.Neg(point.Add(point.Four(b), point.Add(point.Neg(p), point.Neg(point.Four(b))))), point.Select(1, b, p),
	}
}

// sample is a point, and where it is.
type sample struct {
	p point.Point
	s spot
}

// samples are points of all spots, the first ones made on all ways, each other one on one of them.
func samples(t testing.TB) []sample {
	t.Helper()
	var l []sample
	for i, s := range spots() {
		for k, p := range ways(t, s) {
			if i < 14 || k == i%9 {
				l = append(l, sample{p, s})
			}
		}
	}
	return append(l, sample{point.Identity(), at(0, 1)}, sample{point.Base(), base()}, sample{point.Neg(point.Base()), base().neg()})
}

// mult is so many times a point.
func mult(k *big.Int, p point.Point) point.Point {
	out := point.Identity()
	for i := k.BitLen() - 1; i >= 0; i-- {
		out = point.Double(out)
		if k.Bit(i) == 1 {
			out = point.Add(out, p)
		}
	}
	return out
}

// bytesOf is so many bytes that hold a number, and a last one.
func bytesOf(y *big.Int, last byte) []byte { return append(text(y, api.Field), last) }

// same holds a point against a spot.
func same(t testing.TB, what string, p point.Point, want spot) {
	t.Helper()
	x, y := point.Affine(p)
	if !bytes.Equal(field.Bytes(x), text(want.x, api.Field)) || !bytes.Equal(field.Bytes(y), text(want.y, api.Field)) {
		t.Errorf("%s: %x, %x, not %x, %x", what, field.Bytes(x), field.Bytes(y), text(want.x, api.Field), text(want.y, api.Field))
	}
}

// held holds Decode of bytes against what is asked of them, and Encode of it against the bytes. It tells whether they are a point's.
func held(t testing.TB, b []byte) bool {
	t.Helper()
	want, e := asked(b)
	p, n := Decode(b)
	if n != e {
		t.Errorf("Decode of %x: %d, not %d", b, int(n), int(e))
		return false
	}
	if e != api.OK {
		return false
	}
	same(t, "Decode", p, want)
	if c := Encode(p); !bytes.Equal(c, b) {
		t.Errorf("Encode of Decode of %x: %x", b, c)
	}
	return true
}

// lasts are last bytes, two of which may be.
var lasts = []byte{0, 1, 2, 63, 64, 65, 126, 127, 128, 129, 130, 192, 254, 255}

// P9.1, P9.2: the chapter's examples.
func TestExamples(t *testing.T) {
	one := append([]byte{1}, make([]byte, 56)...)
	if b := Encode(point.Identity()); !bytes.Equal(b, one) {
		t.Errorf("Encode of the identity: %x", b)
	}
	p, e := Decode(make([]byte, 57))
	if e != api.OK {
		t.Error(int(e))
	}
	same(t, "Decode of noughts", p, at(-1, 0))
	p, e = Decode(one)
	if e != api.OK || !point.Equal(p, point.Identity()) {
		t.Error(int(e))
	}
}

// P9.1: Encode of points of which the bytes are known, as they are written out.
func TestEncodeWritten(t *testing.T) {
	half := "14fa30f25b790898adc8d74e2c13bdfdc4397ce61cffd33ad7c2a0051e9c78874098a36c7373ea4b62c7c9563720768824bcb66e71463f69"
	noughts, top := string(make([]byte, 56)), string(bytes.Repeat([]byte{255}, 28))
	b, _ := hex.DecodeString(half)
	for what, c := range map[string]struct {
		p    point.Point
		want string
	}{
		"the identity":          {point.Identity(), "\x01" + noughts},
		"0, 1":                  {reach(t, at(0, 1)), "\x01" + noughts},
		"1, 0":                  {reach(t, at(1, 0)), noughts + "\x80"},
		"-1, 0":                 {reach(t, at(-1, 0)), noughts + "\x00"},
		"0, -1":                 {reach(t, at(0, -1)), "\xfe" + top[:27] + "\xfe" + top[:27] + "\x00"},
		"Double of 1, 0":        {point.Double(reach(t, at(1, 0))), "\xfe" + top[:27] + "\xfe" + top[:27] + "\x00"},
		"Four of it":            {point.Four(reach(t, at(1, 0))), "\x01" + noughts},
		"the base":              {point.Base(), string(b) + "\x00"},
		"the base turned round": {point.Neg(point.Base()), string(b) + "\x80"},
	} {
		if b := Encode(c.p); string(b) != c.want {
			t.Errorf("Encode of %s: %x", what, b)
		}
		if p, e := Decode([]byte(c.want)); e != api.OK || !point.Equal(p, c.p) {
			t.Errorf("Decode of %s: %d", what, int(e))
		}
	}
}

// P9.1: Encode of points of all kinds, made on all ways, is what the other's hand tells.
func TestEncode(t *testing.T) {
	seen := map[byte]int{}
	for _, c := range samples(t) {
		b := Encode(c.p)
		if !bytes.Equal(b, c.s.code()) {
			t.Errorf("Encode of %x, %x: %x", c.s.x, c.s.y, b)
			continue
		}
		seen[b[56]]++
	}
	if seen[0] < 50 || seen[128] < 50 || len(seen) != 2 {
		t.Error("last bytes:", seen)
	}
}

// P9.1: the last byte is of x as root tells it.
func TestEncodeSign(t *testing.T) {
	for _, c := range samples(t) {
		x, y := point.Affine(c.p)
		b := Encode(c.p)
		if root.Negative(x) != (b[56] == 128) || !bytes.Equal(b[:56], field.Bytes(y)) {
			t.Errorf("Encode of %x, %x: %x", c.s.x, c.s.y, b)
		}
		n := Encode(point.Neg(c.p))
		if turned := b[56] ^ 128; c.s.x.Sign() != 0 && (n[56] != turned || !bytes.Equal(n[:56], b[:56])) {
			t.Errorf("Encode of %x, %x turned round: %x", c.s.x, c.s.y, n)
		}
	}
}

// P9.1: rows of sums, each of an other z.
func TestEncodeRows(t *testing.T) {
	p := reach(t, chance(1, 5)[0])
	for range 300 {
		x, y := point.Affine(p)
		want := spot{number(field.Bytes(x)), number(field.Bytes(y))}
		if b := Encode(p); !bytes.Equal(b, want.code()) {
			t.Errorf("Encode of %x, %x: %x", want.x, want.y, b)
		}
		p = point.Add(point.Double(p), point.Base())
	}
}

// P9.1, P9.2: points of RFC 8032, section 7.4: public keys, and first halves of signatures.
func TestKnown(t *testing.T) {
	for i, c := range []struct{ seed, public, message, r string }{
		{
			"6c82a562cb808d10d632be89c8513ebf6c929f34ddfa8c9f63c9960ef6e348a3528c8a3fcc2f044e39a3fc5b94492f8f032e7549a20098f95b",
			"5fd7449b59b461fd2ce787ec616ad46a1da1342485a70e1f8a0ea75d80e96778edf124769b46c7061bd6783df1e50f6cd1fa1abeafe8256180", "",
			"533a37f6bbe457251f023c0d88f976ae2dfb504a843e34d2074fd823d41a591f2b233f034f628281f2fd7a22ddd47d7828c59bd0a21bfd3980",
		},
		{
			"c4eab05d357007c632f3dbb48489924d552b08fe0c353a0d4a1f00acda2c463afbea67c5e8d2877c5e3bc397a659949ef8021e954e0a12274e",
			"43ba28f430cdff456ae531545f7ecd0ac834a55d9358c0372bfa0c6c6798c0866aea01eb00742802b8438ea4cb82169c235160627b4c3a9480", "03",
			"26b8f91727bd62897af15e41eb43c377efb9c610d48f2335cb0bd0087810f4352541b143c4b981b7e18f62de8ccdf633fc1bf037ab7cd77980",
		},
		{
			"cd23d24f714274e744343237b93290f511f6425f98e64459ff203e8985083ffdf60500553abc0e05cd02184bdb89c4ccd67e187951267eb328",
			"dcea9e78f35a1bf3499a831b10b86c90aac01cd84b67a0109b55a36e9328b1e365fce161d71ce7131a543ea4cb5f7e9f1d8b00696447001400", "0c3e544074ec63b0265e0c",
			"1f0a8888ce25e8d458a21130879b840a9089d999aaba039eaf3e3afa090a09d389dba82c4ff2ae8ac5cdfb7c55e94d5d961a29fe0109941e00",
		},
	} {
		seed, _ := hex.DecodeString(c.seed)
		message, _ := hex.DecodeString(c.message)
		digest, _ := shake.Sum(2*api.Point, seed)
		k, _ := scalar.Clamp(digest[:api.Point])
		known(t, i, mult(number(k), point.Base()), c.public)
		digest, _ = shake.Sum(2*api.Point, []byte("SigEd448\x00\x00"), digest[api.Point:], message)
		a, _ := scalar.Reduce(digest)
		known(t, i, mult(number(scalar.Bytes(a)), point.Base()), c.r)
	}
}

// known holds a point against bytes that are known of it, both ways.
func known(t *testing.T, i int, p point.Point, want string) {
	t.Helper()
	if b := hex.EncodeToString(Encode(p)); b != want {
		t.Errorf("%d: Encode: %s, not %s", i, b, want)
	}
	b, _ := hex.DecodeString(want)
	if q, e := Decode(b); e != api.OK || !point.Equal(p, q) {
		t.Errorf("%d: Decode: %d", i, int(e))
	}
}

// P9.2, P9.3: Decode of Encode is the point, however it was made.
func TestDecodeOfEncode(t *testing.T) {
	for _, c := range samples(t) {
		p, e := Decode(Encode(c.p))
		if e != api.OK || !point.Equal(p, c.p) {
			t.Errorf("%x, %x: %d", c.s.x, c.s.y, int(e))
			continue
		}
		same(t, "Decode of Encode", p, c.s)
		q, e := Decode(c.s.code())
		if e != api.OK {
			t.Errorf("%x, %x: %d", c.s.x, c.s.y, int(e))
		}
		same(t, "Decode of the other's bytes", q, c.s)
		if sum := point.Add(p, point.Neg(c.p)); !bytes.Equal(Encode(sum), Encode(point.Identity())) {
			t.Errorf("%x, %x: what Decode tells is none to reckon with", c.s.x, c.s.y)
		}
	}
}

// P9.2: ErrSize, unless there are 57 bytes, whatever they are.
func TestDecodeSizes(t *testing.T) {
	if _, e := Decode(nil); e != api.ErrSize {
		t.Error("of nil:", int(e))
	}
	good, bad := Encode(point.Base()), bytes.Repeat([]byte{255}, 300)
	for n := range 300 {
		for _, b := range [][]byte{append(slices.Clone(good), bad...)[:n], append(slices.Clone(good), make([]byte, 300)...)[:n], make([]byte, n), bad[:n]} {
			if is := held(t, b); is != (n == 57 && b[56] == 0) {
				t.Errorf("%d bytes, %x: %v", n, b, is)
			}
		}
	}
	for _, n := range []int{0, 1, 55, 56, 58, 59, 112, 113, 114, 57 + 256, 57 + 65536, 65536} {
		if _, e := Decode(make([]byte, n)); e != api.ErrSize {
			t.Errorf("of %d bytes: %d", n, int(e))
		}
		if _, e := Decode(some(n, 3)); e != api.ErrSize {
			t.Errorf("of %d bytes: %d", n, int(e))
		}
	}
}

// P9.2, P9.3: all last bytes, of a y that has an x, of one whose x is 0, and of one that has none, or is none.
func TestDecodeLast(t *testing.T) {
	p := modulus()
	for what, c := range map[string]struct {
		y    *big.Int
		good []byte
	}{
		"the base":     {base().y, []byte{0, 128}},
		"0":            {big.NewInt(0), []byte{0, 128}},
		"1":            {big.NewInt(1), []byte{0}},
		"-1":           {less(p, 1), []byte{0}},
		"chance":       {chance(1, 77)[0].y, []byte{0, 128}},
		"none":         {lone(t), nil},
		"p":            {p, nil},
		"p and 1":      {less(p, -1), nil},
		"2^448 less 1": {less(power(448), 1), nil},
	} {
		for last := range 256 {
			is := held(t, bytesOf(c.y, byte(last)))
			if is != slices.Contains(c.good, byte(last)) {
				t.Errorf("%s, the last byte %d: %v", what, last, is)
			}
		}
	}
}

// lone is a number that is no point's y.
func lone(t testing.TB) *big.Int {
	t.Helper()
	for n := int64(2); n < 100; n++ {
		if big.Jacobi(squared(big.NewInt(n)), modulus()) == -1 {
			return big.NewInt(n)
		}
	}
	t.Fatal("there is none")
	return nil
}

// P9.2, P9.3: an x of 0 is not negative: of y 1 and -1 the last byte is 0.
func TestDecodeZeroX(t *testing.T) {
	for _, y := range []*big.Int{big.NewInt(1), less(modulus(), 1)} {
		p, e := Decode(bytesOf(y, 0))
		if e != api.OK {
			t.Errorf("%x: %d", y, int(e))
		}
		same(t, "of x 0", p, spot{new(big.Int), y})
		for _, last := range lasts[1:] {
			if _, e := Decode(bytesOf(y, last)); e != api.ErrPoint {
				t.Errorf("%x, the last byte %d: %d", y, last, int(e))
			}
		}
	}
}

// P9.2, P9.3: no number of p or more is a y, though what it leaves is one.
func TestDecodeFromP(t *testing.T) {
	points := 0
	for n := int64(-60); n < 300; n++ {
		for _, last := range lasts {
			if held(t, bytesOf(less(modulus(), -n), last)) {
				points++
			}
			if _, e := Decode(bytesOf(less(modulus(), -n), last)); n >= 0 && e != api.ErrPoint {
				t.Errorf("p and %d: %d", n, int(e))
			}
		}
	}
	if points < 20 || points > 119 {
		t.Error("points below p:", points)
	}
	for k := range uint(224) {
		for _, n := range []int64{-1, 0, 1} {
			y := new(big.Int).Add(modulus(), power(k))
			held(t, bytesOf(less(y, n), 0))
			held(t, bytesOf(less(y, n), 128))
		}
	}
	for _, last := range lasts {
		if held(t, append(bytes.Repeat([]byte{255}, 56), last)) {
			t.Error("all 255, the last one", last)
		}
	}
}

// P9.2, P9.3: numbers one behind the other, at both ends, and powers of two: bytes are a point's just if the chapter says so.
func TestDecodeNumbers(t *testing.T) {
	points, none := 0, 0
	try := func(y *big.Int) {
		first, other := held(t, bytesOf(y, 0)), held(t, bytesOf(y, 128))
		zero := y.Cmp(big.NewInt(1)) == 0 || y.Cmp(less(modulus(), 1)) == 0
		if first != other && !zero {
			t.Errorf("%x: one sign alone", y)
		}
		if first {
			points++
		} else {
			none++
		}
	}
	for n := range int64(300) {
		try(big.NewInt(n))
		try(less(modulus(), n+1))
		try(new(big.Int).Rsh(less(modulus(), -2*n), 1))
	}
	for k := range uint(448) {
		try(power(k))
		try(less(power(k), 1))
		try(less(power(k), -1))
	}
	for seed := range uint64(400) {
		try(number(some(api.Field, seed)))
	}
	if points < 800 || none < 800 {
		t.Error(points, "points,", none, "others")
	}
}

// P9.2, P9.3: bytes of points, one bit of which is an other one.
func TestDecodeBits(t *testing.T) {
	for _, s := range append(quarters(), base(), chance(1, 9)[0]) {
		for i := range 8 * api.Point {
			b := s.code()
			b[i/8] ^= 1 << (i % 8)
			held(t, b)
			if p, e := Decode(b); e == api.OK && point.Equal(p, reach(t, s)) {
				t.Errorf("%x is %x, %x, too", b, s.x, s.y)
			}
		}
	}
}

// P9.2: bytes of a point the other way round, its y and its x changed, and its y in 57 bytes with the highest one first.
func TestDecodeTurned(t *testing.T) {
	for _, s := range spots() {
		b := s.code()
		slices.Reverse(b)
		held(t, b)
		b = s.code()
		slices.Reverse(b[:56])
		held(t, b)
		held(t, spot{s.y, s.x}.code())
		held(t, append([]byte{s.code()[56]}, s.code()[:56]...))
	}
}

// P9.3: two points have the same bytes just if they are the same.
func TestSameBytes(t *testing.T) {
	l := samples(t)
	codes := make([][]byte, len(l))
	for i, c := range l {
		codes[i] = Encode(c.p)
	}
	for i, c := range l {
		for k, o := range l[:i+1] {
			like := c.s.x.Cmp(o.s.x) == 0 && c.s.y.Cmp(o.s.y) == 0
			if bytes.Equal(codes[i], codes[k]) != like || point.Equal(c.p, o.p) != like {
				t.Errorf("%x, %x and %x, %x", c.s.x, c.s.y, o.s.x, o.s.y)
			}
		}
	}
}

// P9.3: multiples of the base up to 2000 all have bytes of their own, and so have those of it and 1, 0.
func TestManyBytes(t *testing.T) {
	seen := map[string]int{}
	for _, s := range quarters() {
		p := reach(t, s)
		for range 500 {
			seen[string(Encode(p))]++
			p = point.Add(p, point.Base())
		}
	}
	if len(seen) != 2000 {
		t.Error(len(seen), "of 2000")
	}
	for b := range seen {
		p, e := Decode([]byte(b))
		if e != api.OK || string(Encode(p)) != b {
			t.Errorf("%x: %d", b, int(e))
		}
	}
}

// R2: what is handed in stays as it is, and so does what stands behind it.
func TestKept(t *testing.T) {
	for i, c := range samples(t) {
		p := c.p
		b := Encode(p)
		if p != c.p {
			t.Error(i, "Encode turned its point")
		}
		whole := append(slices.Clone(b), some(200, uint64(i))...)
		for _, n := range []int{0, 56, 57, 58} {
			for _, last := range []byte{b[56], 1, 255} {
				all := slices.Clone(whole)
				all[56] = last
				kept := slices.Clone(all)
				Decode(all[:n])
				if !bytes.Equal(all, kept) {
					t.Error(i, "Decode wrote into its bytes")
				}
			}
		}
	}
}

// R2: what is answered is the caller's.
func TestOwn(t *testing.T) {
	for i, c := range samples(t) {
		first := Encode(c.p)
		second := Encode(c.p)
		clear(first[:cap(first)])
		_ = append(first[:0], bytes.Repeat([]byte{9}, 57)...)
		if !bytes.Equal(second, c.s.code()) || !bytes.Equal(Encode(c.p), c.s.code()) {
			t.Error(i, "Encode's answers hang together")
		}
		p, _ := Decode(second)
		for k := range second {
			second[k] = 7
		}
		same(t, "Decode, when its bytes are others", p, c.s)
		q, _ := Decode(c.s.code())
		p = point.Double(p)
		same(t, "Decode, when an other one's answer is an other one", q, c.s)
	}
}

// R3: what is answered hangs on the arguments alone, not on calls ahead, of errors, too, nor on who else calls.
func TestOneState(t *testing.T) {
	l := samples(t)
	bad := bytesOf(lone(t), 0)
	var wait sync.WaitGroup
	for n := range 4 {
		wait.Go(func() {
			for i := range l {
				c := l[(i*(2*n+1))%len(l)]
				if _, e := Decode(bad); e != api.ErrPoint {
					t.Error(int(e))
				}
				if _, e := Decode(bad[:n]); e != api.ErrSize {
					t.Error(int(e))
				}
				if p, e := Decode(c.s.code()); e != api.OK || !point.Equal(p, c.p) || !bytes.Equal(Encode(c.p), c.s.code()) {
					t.Error("an other answer")
				}
			}
		})
	}
	wait.Wait()
}

// R1: no bytes make Decode panic; those of errors turn nothing.
func TestAny(t *testing.T) {
	for seed := range uint64(2000) {
		held(t, some(int(seed%60), seed))
		b := some(57, seed)
		held(t, b)
		b[56] &= 128
		held(t, b)
	}
}

// P9.1, P9.2, P9.3: any bytes.
func FuzzDecode(f *testing.F) {
	f.Add([]byte{})
	f.Add(make([]byte, 57))
	f.Add(base().code())
	f.Add(base().neg().code())
	f.Add(base().code()[:56])
	f.Add(bytesOf(modulus(), 0))
	f.Add(bytesOf(less(modulus(), 1), 128))
	f.Add(bytesOf(less(modulus(), -1), 0))
	f.Add(bytes.Repeat([]byte{255}, 57))
	f.Add(append(base().code(), 0))
	f.Fuzz(func(t *testing.T, b []byte) {
		held(t, b)
		whole := append(slices.Clone(b), make([]byte, 57)...)[:57]
		held(t, whole)
		whole[56] &= 128
		held(t, whole)
	})
}

func BenchmarkEncode(b *testing.B) {
	p := point.Double(point.Base())
	for b.Loop() {
		Encode(p)
	}
}

func BenchmarkDecode(b *testing.B) {
	c := Encode(point.Base())
	for b.Loop() {
		Decode(c)
	}
}
