package field

import (
	"bytes"
	"math"
	"math/big"
	"slices"
	"testing"

	"chicory/api"
)

// above is the least number that is too great for a limb of an element: one less is the greatest it may be.
const above = 1<<56 + 4

// modulus is p by an other's hand.
func modulus() *big.Int {
	p := power(448)
	return p.Sub(p, power(224)).Sub(p, big.NewInt(1))
}

// power is 2^k.
func power(k uint) *big.Int { return new(big.Int).Lsh(big.NewInt(1), k) }

// less is x - n.
func less(x *big.Int, n int64) *big.Int { return new(big.Int).Sub(x, big.NewInt(n)) }

// left is what x leaves, divided by p, x being below 0, too.
func left(x *big.Int) *big.Int { return new(big.Int).Mod(x, modulus()) }

// text is a number's 56 bytes, the lowest one first.
func text(x *big.Int) []byte {
	b := x.FillBytes(make([]byte, 56))
	slices.Reverse(b)
	return b
}

// number is the number of bytes, the lowest one first.
func number(b []byte) *big.Int {
	b = slices.Clone(b)
	slices.Reverse(b)
	return new(big.Int).SetBytes(b)
}

// great is where an element stands, which may be p or more.
func great(a Element) *big.Int {
	out := new(big.Int)
	for _, x := range slices.Backward(a.limbs[:]) {
		out.Lsh(out, 56).Add(out, new(big.Int).SetUint64(x))
	}
	return out
}

// same holds an element against a number that leaves the same, divided by p, and its limbs against what they may be.
func same(t *testing.T, what string, a Element, want *big.Int) {
	t.Helper()
	for _, x := range a.limbs {
		if x >= above {
			t.Errorf("%s: a limb is too great: %x", what, a.limbs)
		}
	}
	if b := Bytes(a); !bytes.Equal(b, text(left(want))) {
		t.Errorf("%s: %x, not %x", what, b, text(left(want)))
	}
}

// of is the element of a number below 2^448.
func of(t *testing.T, x *big.Int) Element {
	t.Helper()
	a, e := Of(text(x))
	if e != api.OK {
		t.Fatal(int(e))
	}
	return a
}

// some is n bytes that are not much like each other.
func some(n int, seed uint64) []byte {
	b := make([]byte, n)
	for i := range b {
		seed = seed*6364136223846793005 + 1442695040888963407
		b[i] = byte(seed >> 56)
	}
	return b
}

// rows are limbs that are the same, but for those from i to j, which are others.
func rows(rest, x uint64, i, j int) Element {
	var a Element
	for k := range a.limbs {
		a.limbs[k] = rest
		if k >= i && k < j {
			a.limbs[k] = x
		}
	}
	return a
}

// numbers are those at which limbs, and p, begin and end, below 2^448, and others.
func numbers() []*big.Int {
	p, end := modulus(), power(448)
	l := []*big.Int{
		big.NewInt(0), big.NewInt(1), big.NewInt(2), big.NewInt(3), big.NewInt(39081),
		less(p, 3), less(p, 2), less(p, 1), p, less(p, -1), less(p, -2), less(p, -100),
		less(end, 1), less(end, 2), less(end, 3), less(power(224), 1), power(224), less(power(224), -1), less(power(224), -2),
		less(power(225), -1), less(power(225), -2), new(big.Int).Rsh(p, 1), less(new(big.Int).Rsh(p, 1), -1),
		new(big.Int).Sub(end, power(224)), less(new(big.Int).Sub(end, power(224)), 2), less(new(big.Int).Sub(end, power(225)), 1),
	}
	for k := uint(56); k < 448; k += 56 {
		l = append(l, less(power(k), 1), power(k), less(power(k), -1), less(new(big.Int).Sub(end, power(k)), 1), new(big.Int).Sub(p, power(k)))
	}
	for k := range uint64(4) {
		l = append(l, number(some(56, k)))
	}
	return l
}

// edges are elements of all these numbers, and such as calls may leave: limbs that are a little too great.
func edges(t *testing.T) []Element {
	t.Helper()
	var l []Element
	for _, x := range numbers() {
		l = append(l, of(t, x))
	}
	for i := range count {
		for _, x := range []uint64{full, full + 1, above - 1} {
			l = append(l, rows(0, x, i, i+1), rows(full, x, i, i+1), rows(0, x, i, count), rows(full, x, 0, i))
		}
	}
	return append(l, rows(full+1, 0, 0, 0), rows(above-1, 0, 0, 0), rows(above-1, 0, half, count), rows(full, above-1, half, count))
}

// few are some of the edges, of all kinds.
func few(t *testing.T) []Element {
	t.Helper()
	l := edges(t)
	out := []Element{{}, of(t, big.NewInt(1)), of(t, less(modulus(), 1)), of(t, modulus()), of(t, less(power(448), 1)), l[len(l)-3]}
	for i := 0; i < len(l); i += 9 {
		out = append(out, l[i])
	}
	return out
}

// ints are numbers at which words, halves of them, limbs and ints begin and end.
func ints() []int {
	l := []int{0, 1, 2, 3, 5, 9, 10, 39081, 39082, math.MaxInt, math.MaxInt - 1, math.MinInt + 1}
	for k := 7; k < 63; k += 7 {
		l = append(l, 1<<k-1, 1<<k, 1<<k+1)
	}
	l = append(l, 1<<31-1, 1<<31, 1<<32-1, 1<<32, 1<<62-1, 1<<62)
	for _, n := range l {
		l = append(l, -n)
	}
	return append(l, math.MinInt)
}

// P4.1, P4.2: the chapter's examples.
func TestExamples(t *testing.T) {
	same(t, "-1 and 1", Add(Int(-1), Int(1)), big.NewInt(0))
	if !Zero(Add(Int(-1), Int(1))) {
		t.Error("-1 and 1 are not 0")
	}
	b := Bytes(Int(-1))
	if len(b) != 56 || b[0] != 254 || !bytes.Equal(b[1:28], bytes.Repeat([]byte{255}, 27)) {
		t.Errorf("%x", b)
	}
	want := P()
	want[0]--
	if !bytes.Equal(b, want) {
		t.Errorf("%x", b)
	}
}

// P4.1: P.
func TestP(t *testing.T) {
	if !bytes.Equal(P(), text(modulus())) {
		t.Errorf("%x", P())
	}
	if !modulus().ProbablyPrime(20) {
		t.Error("no prime number")
	}
}

// P4.1: bytes that are not 56.
func TestSize(t *testing.T) {
	for _, n := range []int{0, 1, 7, 8, 28, 54, 55, 57, 58, 64, 112, 1000} {
		for _, b := range [][]byte{make([]byte, n), some(n, 1), bytes.Repeat([]byte{255}, n)} {
			if a, e := Of(b); a != (Element{}) || e != api.ErrSize {
				t.Errorf("Of %d bytes: %x %d", n, a.limbs, int(e))
			}
			if a, e := Decode(b); a != (Element{}) || e != api.ErrSize {
				t.Errorf("Decode %d bytes: %x %d", n, a.limbs, int(e))
			}
		}
	}
	if a, e := Of(nil); a != (Element{}) || e != api.ErrSize {
		t.Errorf("Of nil: %x %d", a.limbs, int(e))
	}
	if a, e := Decode(nil); a != (Element{}) || e != api.ErrSize {
		t.Errorf("Decode nil: %x %d", a.limbs, int(e))
	}
}

// P4.1: Of, of numbers below p and of p and more.
func TestOf(t *testing.T) {
	for _, x := range numbers() {
		same(t, "Of", of(t, x), x)
	}
	for i := range 56 {
		for _, c := range []byte{1, 128, 255} {
			b := make([]byte, 56)
			b[i] = c
			same(t, "Of one byte", of(t, number(b)), number(b))
		}
	}
	same(t, "p", of(t, modulus()), big.NewInt(0))
	same(t, "p + 1", of(t, less(modulus(), -1)), big.NewInt(1))
	same(t, "2^448 - 1", of(t, less(power(448), 1)), power(224))
}

// P4.1: Decode: p and more are ErrForm.
func TestDecode(t *testing.T) {
	l := numbers()
	for k := uint(0); k < 448; k += 8 { // one less, and one more, at each byte
		l = append(l, new(big.Int).Sub(modulus(), power(k)))
		if x := new(big.Int).Add(modulus(), power(k)); x.BitLen() <= 448 {
			l = append(l, x)
		}
	}
	for _, x := range l {
		a, e := Decode(text(x))
		if x.Cmp(modulus()) >= 0 {
			if a != (Element{}) || e != api.ErrForm {
				t.Errorf("%x: %x %d, not error %d", x, a.limbs, int(e), int(api.ErrForm))
			}
			continue
		}
		if e != api.OK {
			t.Errorf("%x: error %d", x, int(e))
		}
		same(t, "Decode", a, x)
	}
}

// P4.1: Int, of the least and the greatest one, too.
func TestInt(t *testing.T) {
	for _, n := range ints() {
		same(t, "Int", Int(n), big.NewInt(int64(n)))
	}
}

// P4.1: Bytes, wherever an element stands; Decode of them is it again.
func TestBytes(t *testing.T) {
	for _, a := range edges(t) {
		same(t, "Bytes", a, great(a))
		b, e := Decode(Bytes(a))
		if e != api.OK || !Equal(a, b) {
			t.Errorf("Decode of Bytes of %x: %x %d", a.limbs, b.limbs, int(e))
		}
	}
}

// P4.2: Add, Sub and Mul, of all pairs of edges.
func TestPairs(t *testing.T) {
	for _, a := range edges(t) {
		for _, b := range edges(t) {
			x, y := great(a), great(b)
			same(t, "Add", Add(a, b), new(big.Int).Add(x, y))
			same(t, "Sub", Sub(a, b), new(big.Int).Sub(x, y))
			same(t, "Mul", Mul(a, b), new(big.Int).Mul(x, y))
		}
	}
}

// P4.2: Neg and Square.
func TestOne(t *testing.T) {
	for _, a := range edges(t) {
		same(t, "Neg", Neg(a), new(big.Int).Neg(great(a)))
		same(t, "Square", Square(a), new(big.Int).Mul(great(a), great(a)))
	}
}

// P4.2: Times, by 0, by numbers below 0, by the least and the greatest one.
func TestTimes(t *testing.T) {
	for _, a := range edges(t) {
		for _, n := range ints() {
			same(t, "Times", Times(a, n), new(big.Int).Mul(great(a), big.NewInt(int64(n))))
		}
	}
}

// P4.2: Zero and Equal, of all pairs of edges, of which many are the same number and stand elsewhere.
func TestEqual(t *testing.T) {
	for _, a := range edges(t) {
		x := left(great(a))
		if Zero(a) != (x.Sign() == 0) {
			t.Errorf("Zero(%x): %t", a.limbs, Zero(a))
		}
		for _, b := range edges(t) {
			if Equal(a, b) != (x.Cmp(left(great(b))) == 0) {
				t.Errorf("Equal(%x, %x): %t", a.limbs, b.limbs, Equal(a, b))
			}
		}
	}
}

// P4.2: Zero and Equal of numbers that were made on other ways, and of such as are not the same by one bit.
func TestEqualMade(t *testing.T) {
	for _, a := range edges(t) {
		ways := []Element{a, Sub(Add(a, Int(7)), Int(7)), Neg(Neg(a)), Mul(a, Int(1)), Add(a, of(t, modulus())), Times(Times(a, -1), -1), Sub(a, Element{}), of(t, left(great(a)))}
		for _, x := range ways {
			for _, y := range ways {
				if !Equal(x, y) || !Zero(Sub(x, y)) || !Zero(Add(x, Neg(y))) {
					t.Errorf("%x and %x are not the same", x.limbs, y.limbs)
				}
			}
		}
		for k := range uint(448) {
			if b := Add(a, of(t, power(k))); Equal(a, b) || Equal(b, a) || Zero(Sub(a, b)) || Zero(of(t, power(k))) {
				t.Errorf("%x, and 2^%d with it, are the same", a.limbs, k)
			}
		}
	}
	for _, a := range []Element{{}, of(t, modulus()), Int(0), Neg(Element{}), Times(Int(5), 0), Add(Int(-3), Int(3)), Sub(of(t, power(224)), of(t, less(power(448), 1))), rows(0, 0, 0, 0)} {
		if !Zero(a) || !Equal(a, Element{}) || !Equal(Element{}, a) {
			t.Errorf("%x is not 0", a.limbs)
		}
	}
}

// P4.2: the zero value is 0 in each call.
func TestZeroValue(t *testing.T) {
	var o Element
	if !bytes.Equal(Bytes(o), make([]byte, 56)) || !Zero(o) || !Equal(o, o) || !Equal(o, Int(0)) || Equal(o, Int(1)) {
		t.Error("the zero value is not 0")
	}
	none := big.NewInt(0)
	for _, a := range edges(t) {
		same(t, "0 and a", Add(o, a), great(a))
		same(t, "a and 0", Add(a, o), great(a))
		same(t, "a less 0", Sub(a, o), great(a))
		same(t, "0 less a", Sub(o, a), great(Neg(a)))
		same(t, "0 times a", Mul(o, a), none)
		same(t, "a times 0", Mul(a, o), none)
	}
	for _, n := range ints() {
		same(t, "0 by a number", Times(o, n), none)
	}
	same(t, "0 less 0", Neg(o), none)
	same(t, "0 times itself", Square(o), none)
}

// P4.2: Select and Swap: bits that are even, and others, below 0 too.
func TestSelect(t *testing.T) {
	for _, bit := range []int{0, 1, 2, 3, 4, 5, -1, -2, -3, -4, 255, 256, 1 << 32, 1<<32 + 1, math.MaxInt, math.MaxInt - 1, math.MinInt, math.MinInt + 1} {
		for _, a := range few(t) {
			for _, b := range edges(t) {
				x, y := a, b
				if bit%2 != 0 {
					x, y = b, a
				}
				same(t, "Select", Select(bit, a, b), great(x))
				c, d := Swap(bit, a, b)
				same(t, "the first of Swap", c, great(x))
				same(t, "the second of Swap", d, great(y))
			}
		}
	}
}

// P4.3: sums and products go either way, in any order; a product of a sum is the sum of products; a sum less a part is the other part.
func TestLaws(t *testing.T) {
	equal := func(what string, a, b Element) {
		t.Helper()
		if !Equal(a, b) || !bytes.Equal(Bytes(a), Bytes(b)) {
			t.Errorf("%s: %x and %x", what, a.limbs, b.limbs)
		}
	}
	for _, a := range few(t) {
		for _, b := range few(t) {
			equal("a sum, the other way", Add(a, b), Add(b, a))
			equal("a product, the other way", Mul(a, b), Mul(b, a))
			equal("a sum, less a part", Sub(Add(a, b), a), b)
			equal("a sum, less the other part", Sub(Add(a, b), b), a)
			equal("what is left, with what was taken", Add(Sub(a, b), b), a)
			equal("what is left, the other way", Sub(a, b), Neg(Sub(b, a)))
			for _, c := range few(t) {
				equal("sums in an other order", Add(Add(a, b), c), Add(a, Add(b, c)))
				equal("products in an other order", Mul(Mul(a, b), c), Mul(a, Mul(b, c)))
				equal("a product of a sum", Mul(Add(a, b), c), Add(Mul(a, c), Mul(b, c)))
				equal("a product of what is left", Mul(c, Sub(a, b)), Sub(Mul(c, a), Mul(c, b)))
			}
		}
	}
}

// P4.3: a product is 0 just if a part is.
func TestProductZero(t *testing.T) {
	for _, a := range edges(t) {
		for _, b := range edges(t) {
			if Zero(Mul(a, b)) != (Zero(a) || Zero(b)) {
				t.Errorf("%x times %x", a.limbs, b.limbs)
			}
		}
		if Zero(Square(a)) != Zero(a) {
			t.Errorf("%x times itself", a.limbs)
		}
	}
}

// What goes over does so at one limb behind the other, once and again, up to the last one and in again below.
func TestOver(t *testing.T) {
	for k := range uint(449) {
		a := of(t, less(power(k), 1))
		same(t, "2^k", Add(a, Int(1)), power(k))
		same(t, "2^k", Sub(a, Int(-1)), power(k))
		same(t, "2^k - 2", Sub(a, Int(1)), less(power(k), 2))
		if k < 448 {
			same(t, "2^k - 1", Sub(of(t, power(k)), Int(1)), less(power(k), 1))
		}
	}
	for _, a := range edges(t) {
		x := great(a)
		for range 500 {
			a = Add(a, a)
			x = left(x.Lsh(x, 1))
			same(t, "doubled", a, x)
		}
	}
	for _, first := range edges(t) {
		up, down, squared := first, first, first
		x, y, z := great(up), great(down), great(squared)
		for range 100 {
			up, x = Add(up, first), x.Add(x, great(first))
			same(t, "added", up, x)
			down, y = Sub(down, first), y.Sub(y, great(first))
			same(t, "taken away", down, y)
			squared, z = Square(squared), left(z.Mul(z, z))
			same(t, "squared", squared, z)
		}
	}
}

// call makes an element by the call of a number, and what it should be.
func call(kind byte, n int, a, b Element, x, y *big.Int) (Element, *big.Int) {
	z := new(big.Int)
	switch kind % 9 {
	case 0:
		return Add(a, b), z.Add(x, y)
	case 1:
		return Sub(a, b), z.Sub(x, y)
	case 2:
		return Mul(a, b), z.Mul(x, y)
	case 3:
		return Neg(a), z.Neg(x)
	case 4:
		return Square(a), z.Mul(x, x)
	case 5:
		return Times(a, n), z.Mul(x, big.NewInt(int64(n)))
	case 6:
		if n%2 == 0 {
			y = x
		}
		return Select(n, a, b), z.Set(y)
	case 7:
		if n%2 != 0 {
			y = x
		}
		_, d := Swap(n, a, b)
		return d, z.Set(y)
	}
	return Int(n), z.SetInt64(int64(n))
}

// Long rows of calls, each of what was made ahead.
func TestRows(t *testing.T) {
	for seed := range uint64(40) {
		l := few(t)
		var want []*big.Int
		for _, a := range l {
			want = append(want, great(a))
		}
		wild := some(4*3000, seed)
		numbers := ints()
		for ; len(wild) > 0; wild = wild[4:] {
			i, j, n := int(wild[1])%len(l), int(wild[2])%len(l), numbers[int(wild[3])%len(numbers)]
			a, x := call(wild[0], n, l[i], l[j], want[i], want[j])
			same(t, "made", a, x)
			l[j], want[j] = a, left(x)
			if Equal(l[i], a) != (left(want[i]).Cmp(want[j]) == 0) || Zero(a) != (want[j].Sign() == 0) {
				t.Errorf("%x: Equal or Zero", a.limbs)
			}
		}
	}
}

// R2: bytes that are handed in stay as they are, and so does what stands behind them.
func TestHandedInIsKept(t *testing.T) {
	for _, x := range numbers() {
		whole := append(text(x), 11, 12, 13)
		want := slices.Clone(whole)
		a, _ := Of(whole[:56])
		b, e := Decode(whole[:56])
		if !bytes.Equal(whole, want) {
			t.Errorf("%x: written into", x)
		}
		clear(whole)
		same(t, "Of", a, x)
		if e == api.OK {
			same(t, "Decode", b, x)
		}
	}
}

// R2: elements that are handed in stay as they are.
func TestElementsAreKept(t *testing.T) {
	for _, a := range few(t) {
		for _, b := range few(t) {
			x, y := a, b
			Add(a, b)
			Sub(a, b)
			Mul(a, b)
			Square(a)
			Neg(a)
			Times(a, -3)
			Select(1, a, b)
			Swap(1, a, b)
			Equal(a, b)
			Zero(a)
			Bytes(a)
			if a != x || b != y {
				t.Errorf("%x and %x: written into", x.limbs, y.limbs)
			}
		}
	}
}

// R2: what is answered is the caller's.
func TestAnsweredIsNew(t *testing.T) {
	p := P()
	clear(p[:cap(p)])
	if !bytes.Equal(P(), text(modulus())) {
		t.Errorf("P: %x", P())
	}
	for _, a := range edges(t) {
		b, c := Bytes(a), Bytes(a)
		clear(b[:cap(b)])
		if !bytes.Equal(c, text(left(great(a)))) {
			t.Errorf("Bytes: %x", c)
		}
		same(t, "Bytes, again", a, great(a))
	}
	same(t, "p less 1", Int(-1), less(modulus(), 1))
}

// All calls, of any bytes, against an other's hand.
func FuzzCalls(f *testing.F) {
	f.Add(text(less(modulus(), 1)), text(less(power(448), 1)), -1)
	f.Add(P(), make([]byte, 56), math.MinInt)
	f.Add(make([]byte, 55), make([]byte, 57), 0)
	f.Fuzz(func(t *testing.T, p, s []byte, n int) {
		a, e := Of(p)
		b, g := Decode(s)
		if (e == api.OK) != (len(p) == 56) || (g == api.ErrSize) != (len(s) != 56) {
			t.Error(int(e), int(g))
		}
		if g != api.ErrSize && (g == api.ErrForm) != (number(s).Cmp(modulus()) >= 0) {
			t.Error(int(g))
		}
		x, y := new(big.Int), new(big.Int)
		if e == api.OK {
			x = number(p)
		}
		if g == api.OK {
			y = number(s)
		}
		for kind := range byte(9) {
			c, z := call(kind, n, a, b, x, y)
			same(t, "made", c, z)
			d, z := call(kind, n, c, a, z, x)
			same(t, "made of what was made", d, z)
		}
		if Equal(a, b) != (left(x).Cmp(y) == 0) {
			t.Error("Equal")
		}
	})
}

func BenchmarkAdd(b *testing.B) {
	x, y := Int(-3), Int(-5)
	for range b.N {
		x = Add(x, y)
	}
}

func BenchmarkMul(b *testing.B) {
	x, y := Int(-3), Int(-5)
	for range b.N {
		x = Mul(x, y)
	}
}

func BenchmarkSquare(b *testing.B) {
	x := Int(-3)
	for range b.N {
		x = Square(x)
	}
}

func BenchmarkTimes(b *testing.B) {
	x := Int(-3)
	for range b.N {
		x = Times(x, -39081)
	}
}
