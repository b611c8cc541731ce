package comb

import (
	"bytes"
	"encoding/hex"
	"math"
	"math/big"
	"slices"
	"strconv"
	"sync"
	"testing"
	"time"

	"chicory/api"
	"chicory/coding"
	"chicory/field"
	"chicory/point"
	"chicory/scalar"
	"chicory/shake"
)

// modulus is p by an other's hand. It is made once, and nobody writes into it.
var modulus = sync.OnceValue(func() *big.Int {
	p := power(448)
	return p.Sub(p, power(224)).Sub(p, big.NewInt(1))
})

// order is L by an other's hand.
func order() *big.Int {
	l, _ := new(big.Int).SetString("13818066809895115352007386748515426880336692474882178609894547503885", 10)
	return l.Sub(power(446), l)
}

// power is 2^k.
func power(k int) *big.Int { return new(big.Int).Lsh(big.NewInt(1), uint(k)) }

// less is x - n.
func less(x *big.Int, n int64) *big.Int { return new(big.Int).Sub(x, big.NewInt(n)) }

// fold is n times x.
func fold(n int64, x *big.Int) *big.Int { return new(big.Int).Mul(big.NewInt(n), x) }

// text is a number's bytes, so many or more, the lowest one first.
func text(x *big.Int, size int) []byte {
	b := x.FillBytes(make([]byte, max(size, (x.BitLen()+7)/8)))
	slices.Reverse(b)
	return b
}

// number is the number of bytes, the lowest one first.
func number(b []byte) *big.Int {
	b = slices.Clone(b)
	slices.Reverse(b)
	return new(big.Int).SetBytes(b)
}

// some is n bytes that are not much like each other.
func some(n int, seed uint64) []byte {
	b := make([]byte, n)
	for i := range b {
		seed = seed*6364136223846793005 + 1442695040888963407
		b[i] = byte(seed >> 56)
	}
	return b
}

// unhex is the bytes of hexadecimal digits.
func unhex(t testing.TB, s string) []byte {
	t.Helper()
	b, e := hex.DecodeString(s)
	if e != nil {
		t.Fatal(e)
	}
	return b
}

// reach is the point of two numbers, from 0 on and below 2^448, whose elements stand where the numbers do, at p or more, too.
func reach(t testing.TB, x, y *big.Int) point.Point {
	t.Helper()
	a, _ := field.Of(text(x, api.Field))
	b, _ := field.Of(text(y, api.Field))
	p, e := point.Of(a, b)
	if e != api.OK {
		t.Fatalf("%x, %x: %d", x, y, int(e))
	}
	return p
}

// quarters are the points of which four times is the identity, one after the other so many times the second one.
func quarters(t testing.TB) []point.Point {
	t.Helper()
	none, one, last := new(big.Int), big.NewInt(1), less(modulus(), 1)
	return []point.Point{reach(t, none, one), reach(t, one, none), reach(t, none, last), reach(t, last, none)}
}

// chance are n points of no one's choice: of bytes from a seed on, those that are a point's.
func chance(n int, seed uint64) []point.Point {
	var l []point.Point
	for ; len(l) < n; seed++ {
		b := some(api.Point, seed)
		b[api.Field] &= 128
		if p, e := coding.Decode(b); e == api.OK {
			l = append(l, p)
		}
	}
	return l
}

// named is a point, and what it is.
type named struct {
	name string
	p    point.Point
}

// points are points at which sums begin and end, made on some ways, and others.
func points(t testing.TB) []named {
	t.Helper()
	b, q := point.Base(), quarters(t)
	p := modulus()
	l := []named{
		{"the identity", point.Identity()},
		{"the identity, of a sum", point.Add(b, point.Neg(b))},
		{"the identity, of elements at p and more", reach(t, p, less(p, -1))},
		{"1, 0", q[1]},
		{"1, 0, of a sum", point.Add(point.Add(b, q[1]), point.Neg(b))},
		{"1, 0, of elements at p and more", reach(t, less(p, -1), p)},
		{"0, -1", q[2]},
		{"-1, 0", q[3]},
		{"the base", b},
		{"the base turned round", point.Neg(b)},
		{"the base doubled", point.Double(b)},
		{"the base and 1, 0", point.Add(b, q[1])},
		{"the base and 0, -1", point.Add(b, q[2])},
	}
	for i, p := range chance(4, 90) {
		l = append(l, named{"chance " + strconv.Itoa(i), p}, named{"chance and base " + strconv.Itoa(i), point.Add(p, b)})
	}
	return l
}

// alike tells whether two points' elements are the same.
func alike(p, q point.Point) bool {
	x, y := point.Affine(p)
	u, v := point.Affine(q)
	return bytes.Equal(field.Bytes(x), field.Bytes(u)) && bytes.Equal(field.Bytes(y), field.Bytes(v))
}

// same holds a point against an other one, by point's call, and by their elements.
func same(t testing.TB, what string, p, want point.Point) {
	t.Helper()
	if !point.Equal(p, want) || !alike(p, want) {
		t.Errorf("%s: %x, not %x", what, coding.Encode(p), coding.Encode(want))
	}
}

// mult is so many times a point, by point's sums alone.
func mult(k *big.Int, p point.Point) point.Point {
	out := point.Identity()
	for i := k.BitLen() - 1; i >= 0; i-- {
		out = point.Add(out, out)
		if k.Bit(i) == 1 {
			out = point.Add(out, p)
		}
	}
	return out
}

// row is how many bits a row has: 8 times size through teeth, rounded up.
func row(teeth, size int) int { return int(math.Ceil(float64(8*size) / float64(teeth))) }

// worth is the number of a table's i-th point, by the chapter's words.
func worth(i, teeth, size int) *big.Int {
	sum := new(big.Int)
	for k := range teeth {
		if i>>k&1 == 1 {
			sum.Add(sum, power(k*row(teeth, size)))
		}
	}
	return sum
}

// made is New of limits that are kept.
func made(t testing.TB, p point.Point, teeth, size int) *Table {
	t.Helper()
	c, e := New(p, teeth, size)
	if e != api.OK || c == nil {
		t.Fatalf("New of %d teeth and size %d: %d", teeth, size, int(e))
	}
	return c
}

// seen is Look of a place that is one.
func seen(t testing.TB, l []point.Point, i int) point.Point {
	t.Helper()
	p, e := Look(l, i)
	if e != api.OK {
		t.Errorf("Look at %d of %d: %d", i, len(l), int(e))
	}
	return p
}

// product is Mult of as many bytes as there are to be.
func product(t testing.TB, c *Table, b []byte) point.Point {
	t.Helper()
	p, e := c.Mult(b)
	if e != api.OK {
		t.Errorf("Mult of %x: %d", b, int(e))
	}
	return p
}

// refused holds an error's answer: the error asked for, and a point that one can reckon with.
func refused(t testing.TB, what string, p point.Point, e, want api.Errno) {
	t.Helper()
	if e != want || !alike(p, point.Identity()) {
		t.Errorf("%s: %d, not %d, beside %x", what, int(e), int(want), coding.Encode(p))
	}
}

// wild are numbers from the least int to the greatest one.
func wild() []int {
	return []int{math.MinInt, math.MinInt + 1, -1 << 32, -1 << 31, -65536, -2, -1, 1 << 31, 1<<32 - 1, 1 << 32, 1<<32 + 1, 1 << 62, math.MaxInt - 1, math.MaxInt}
}

// texts are bytes of so many, of numbers at which sums begin and end, and others.
func texts(size int) [][]byte {
	last := make([]byte, size)
	last[size-1] = 128
	l := [][]byte{make([]byte, size), text(big.NewInt(1), size), text(big.NewInt(2), size), text(big.NewInt(255), size), last,
		bytes.Repeat([]byte{255}, size), bytes.Repeat([]byte{0x55}, size), bytes.Repeat([]byte{0xaa}, size), bytes.Repeat([]byte{1}, size), bytes.Repeat([]byte{128}, size)}
	for _, n := range []int64{1, 2, 3, 4, 16} {
		for _, by := range []int64{-1, 0, 1} {
			if b := text(less(fold(n, order()), by), size); len(b) == size {
				l = append(l, b)
			}
		}
	}
	for seed := range uint64(3) {
		l = append(l, some(size, seed+uint64(size)))
	}
	return l
}

// P11.2: the chapter's example.
func TestExamples(t *testing.T) {
	for _, c := range points(t) {
		table := made(t, c.p, 2, 1)
		if table.Len() != 4 {
			t.Fatal(c.name, table.Len())
		}
		for i, n := range []int64{0, 1, 16, 17} {
			p, e := table.Look(i)
			if e != api.OK {
				t.Error(c.name, i, int(e))
			}
			same(t, c.name, p, mult(big.NewInt(n), c.p))
		}
	}
}

// P11.1: Same of numbers that are written out.
func TestSameWritten(t *testing.T) {
	for _, c := range [][3]int{
		{0, 0, 1}, {1, 1, 1}, {-1, -1, 1}, {127, 127, 1}, {math.MinInt, math.MinInt, 1}, {math.MaxInt, math.MaxInt, 1},
		{0, 1, 0}, {1, 0, 0}, {0, -1, 0}, {-1, 1, 0}, {2, 3, 0}, {6, 7, 0}, {-2, -1, 0}, {128, 0, 0}, {127, 126, 0},
		{0, math.MinInt, 0}, {math.MinInt, 0, 0}, {-1, math.MaxInt, 0}, {math.MinInt, math.MaxInt, 0}, {5, 5 + math.MinInt, 0},
		{math.MinInt, math.MinInt + 1, 0}, {math.MaxInt, math.MaxInt - 1, 0}, {1 << 32, 0, 0}, {1 << 31, 0, 0}, {-1 << 31, 1 << 31, 0},
	} {
		if n := Same(c[0], c[1]); n != c[2] {
			t.Errorf("Same of %d and %d: %d", c[0], c[1], n)
		}
	}
}

// P11.1: Same of numbers that differ in one bit alone, in two, or in all, and of any two.
func TestSame(t *testing.T) {
	l := slices.Concat(wild(), []int{0, 1, 2, 3, 7, 8, 63, 64, 127, 128, 255, 256, 65535, 65536})
	for seed := range uint64(20) {
		l = append(l, int(number(some(8, seed)).Uint64()))
	}
	for _, a := range l {
		if Same(a, a) != 1 || Same(a, ^a) != 0 || Same(a, a+1) != 0 || Same(a-1, a) != 0 {
			t.Errorf("Same of %d and those beside it", a)
		}
		for k := range strconv.IntSize {
			for j := range strconv.IntSize {
				b := a ^ 1<<k ^ 1<<j
				if n := Same(a, b); n == 1 != (k == j) || n>>1 != 0 {
					t.Errorf("Same of %d and %d: %d", a, b, n)
				}
			}
			if Same(a, a^1<<k) != 0 || Same(a^1<<k, a) != 0 {
				t.Errorf("Same of %d and one of an other bit %d", a, k)
			}
		}
		for _, b := range l {
			if n := Same(a, b); n == 1 != (a == b) || n>>1 != 0 {
				t.Errorf("Same of %d and %d: %d", a, b, n)
			}
		}
	}
}

// listed are n points, each one other than the others: the base so many times, from 2 on, half of them with a quarter.
func listed(t testing.TB, n int) []point.Point {
	t.Helper()
	var l []point.Point
	p, q := point.Double(point.Base()), quarters(t)[1]
	for range n {
		l = append(l, p)
		p = point.Add(p, point.Base())
		if len(l)%2 == 1 {
			p = point.Add(p, q)
		}
	}
	return l
}

// P11.1: Look at all places of lists of some sizes is the point there.
func TestLook(t *testing.T) {
	for _, n := range []int{1, 2, 3, 4, 5, 8, 15, 16, 17, 64, 127, 128, 129, 255, 256, 257} {
		l := listed(t, n)
		for i, want := range l {
			p := seen(t, l, i)
			if !point.Equal(p, want) || n < 20 && !alike(p, want) {
				t.Errorf("Look at %d of %d: an other one", i, n)
			}
		}
	}
}

// P11.1: Look is ErrRange, if there is no such place, and of nil, and where there are points behind the list's length.
func TestLookRange(t *testing.T) {
	whole := listed(t, 130)
	for _, n := range []int{0, 1, 2, 3, 16, 127, 128} {
		for _, i := range append(wild(), -3, n, n+1, n+2, 2*n+1, n+256, n+65536) {
			p, e := Look(whole[:n], i)
			refused(t, "Look at "+strconv.Itoa(i)+" of "+strconv.Itoa(n), p, e, api.ErrRange)
		}
	}
	for _, i := range append(wild(), 0, 1, 2) {
		p, e := Look(nil, i)
		refused(t, "Look at "+strconv.Itoa(i)+" of nil", p, e, api.ErrRange)
		p, e = Look([]point.Point{}, i)
		refused(t, "Look at "+strconv.Itoa(i)+" of none", p, e, api.ErrRange)
		if i != 0 {
			p, e = Look(whole[:1], i)
			refused(t, "Look at "+strconv.Itoa(i)+" of one", p, e, api.ErrRange)
		}
	}
	same(t, "Look of one", seen(t, whole[:1], 0), whole[0])
}

// P11.1: Look of all points, made on all ways, at all places of a list.
func TestLookPoints(t *testing.T) {
	l := points(t)
	for _, c := range l {
		for i := range 5 {
			list := []point.Point{l[9].p, l[3].p, l[0].p, l[11].p, l[14].p}
			list[i] = c.p
			same(t, c.name, seen(t, list, i), c.p)
		}
	}
}

// P11.3: what Look answers is the same, whatever stands at other places.
func TestLookOthers(t *testing.T) {
	all := points(t)
	for _, n := range []int{1, 2, 3, 7, 8, 128} {
		l := listed(t, n)
		for i := 0; i < n; i += 1 + n/9 {
			want := l[i]
			for k, c := range all {
				others := make([]point.Point, n)
				for j := range others {
					others[j] = c.p
					if k%2 == 1 {
						others[j] = all[(j+k)%len(all)].p
					}
				}
				others[i] = want
				if p := seen(t, others, i); !point.Equal(p, want) {
					t.Errorf("Look at %d of %d beside %s: an other one", i, n, c.name)
				}
			}
		}
	}
}

// P11.1: all are looked at. One that is asked for at the beginning takes as long as one at the end, more or less: if none behind it were looked at, it would take some thousandth.
func TestLookAtAll(t *testing.T) {
	l := slices.Repeat(listed(t, 4), 1024)
	took := func(i int) time.Duration {
		from := time.Now()
		seen(t, l, i)
		return time.Since(from)
	}
	places := []int{0, len(l) / 2, len(l) - 1}
	least := []time.Duration{time.Hour, time.Hour, time.Hour}
	for range 40 {
		for k, i := range places {
			least[k] = min(least[k], took(i))
		}
	}
	if 8*slices.Min(least) < slices.Max(least) {
		t.Error("Look at", places, "took", least)
	}
}

// held holds Powers against point's own sums: each one is the one ahead of it, so often with itself.
func held(t testing.TB, c named, n, apart int) []point.Point {
	t.Helper()
	l, e := Powers(c.p, n, apart)
	if e != api.OK || len(l) != n {
		t.Errorf("Powers of %s, %d, %d: %d, %d", c.name, n, apart, len(l), int(e))
		return nil
	}
	want := c.p
	for i, p := range l {
		if !point.Equal(p, want) || i%21 == 1 && !alike(p, want) {
			t.Errorf("Powers of %s, %d, %d: an other one at %d", c.name, n, apart, i)
		}
		for range apart {
			want = point.Add(want, want)
		}
	}
	return l
}

// P11.1: Powers of all edges' numbers, of all points.
func TestPowers(t *testing.T) {
	for _, c := range points(t) {
		for _, n := range []int{0, 1, 2, 3, 7} {
			for _, apart := range []int{0, 1, 2, 3, 63, 64, 65, 511, 512} {
				held(t, c, n, apart)
			}
		}
		held(t, c, 64, 0)
		held(t, c, 64, 1)
		held(t, c, 63, 8)
	}
	held(t, named{"the base", point.Base()}, 64, 512)
	held(t, named{"chance", chance(1, 7)[0]}, 64, 511)
	for n := range 65 {
		held(t, named{"the base", point.Base()}, n, n%5)
	}
}

// P11.1: Powers by numbers: the i-th one is 2 to the power of i times apart times p. Of any point 4 L times are the identity.
func TestPowersNumbers(t *testing.T) {
	whole := fold(4, order())
	for _, c := range points(t) {
		for _, apart := range []int{0, 1, 3, 74, 446, 512} {
			l, e := Powers(c.p, 5, apart)
			if e != api.OK {
				t.Fatal(int(e))
			}
			for i, p := range l {
				k := new(big.Int).Mod(power(i*apart), whole)
				same(t, c.name+" at "+strconv.Itoa(i)+", apart "+strconv.Itoa(apart), p, mult(k, c.p))
			}
		}
	}
	l, _ := Powers(point.Base(), 64, 512)
	for _, i := range []int{31, 62, 63} {
		same(t, "the last ones", l[i], mult(new(big.Int).Mod(power(i*512), order()), point.Base()))
	}
}

// P11.1: Powers of points of which four times is the identity, as they are written out.
func TestPowersQuarters(t *testing.T) {
	q := quarters(t)
	for k, p := range q {
		for apart := range 5 {
			l, e := Powers(p, 64, apart)
			if e != api.OK || len(l) != 64 {
				t.Fatal(int(e))
			}
			for i := range l {
				same(t, "a quarter", l[i], q[k<<min(i*apart, 2)%4])
			}
		}
	}
}

// P11.1: Powers is ErrRange, if n is not from 0 to 64, or apart not from 0 to 512.
func TestPowersRange(t *testing.T) {
	badN := append(wild(), -64, 65, 66, 128, 256, 256+1, 512, 65536, 65536+1)
	badApart := append(wild(), -512, 513, 514, 1024, 65536, 65536+1)
	asked := func(n, apart int) {
		t.Helper()
		if l, e := Powers(point.Base(), n, apart); e != api.ErrRange || l != nil {
			t.Errorf("Powers of %d, %d: %d, %d", n, apart, len(l), int(e))
		}
	}
	for _, n := range badN {
		for _, apart := range []int{0, 1, 8, 512} {
			asked(n, apart)
		}
	}
	for _, apart := range badApart {
		for _, n := range append(badN, 0, 1, 2, 64) {
			asked(n, apart)
		}
	}
}

// P11.2: Len and Look of tables of all teeth and sizes, against point's own sums of rows' worths.
func TestTables(t *testing.T) {
	for teeth := 1; teeth <= MaxTeeth; teeth++ {
		for size := 1; size <= MaxSize; size++ {
			base := chance(1, uint64(size))[0]
			c := made(t, base, teeth, size)
			if c.Len() != 1<<teeth {
				t.Fatal(teeth, size, c.Len())
			}
			var worths []point.Point
			for range teeth {
				worths = append(worths, base)
				for range row(teeth, size) {
					base = point.Add(base, base)
				}
			}
			for i := range c.Len() {
				want := point.Identity()
				for k, w := range worths {
					if i>>k&1 == 1 {
						want = point.Add(w, want)
					}
				}
				if p, e := c.Look(i); e != api.OK || !point.Equal(p, want) {
					t.Errorf("the table of %d teeth, size %d: an other one at %d: %d", teeth, size, i, int(e))
				}
			}
		}
	}
}

// P11.2: Look of tables of all points, by the rows' worths as numbers, at the sizes that teeth divide, and those they do not.
func TestTablesNumbers(t *testing.T) {
	whole := fold(4, order())
	for n, c := range points(t) {
		for teeth := 1; teeth <= MaxTeeth; teeth++ {
			for _, size := range []int{1, 2, 7, 56, 57, 64} {
				if (n+teeth+size)%4 != 0 {
					continue
				}
				table := made(t, c.p, teeth, size)
				for i := 0; i < table.Len(); i += 1 + i/5 {
					k := worth(i, teeth, size)
					p, e := table.Look(i)
					if e != api.OK {
						t.Error(int(e))
					}
					same(t, c.name, p, mult(k.Mod(k, whole), c.p))
				}
			}
		}
	}
}

// P11.2: tables that are written out: of the base of three teeth and two bytes, whose rows are of 6 bits, the last one not full; and of seven teeth and one byte, of 2 bits, so that three rows are empty, but have a worth.
func TestTablesWritten(t *testing.T) {
	for _, c := range []struct {
		teeth, size int
		want        map[int]int64
	}{
		{1, 1, map[int]int64{0: 0, 1: 1}},
		{2, 2, map[int]int64{0: 0, 1: 1, 2: 256, 3: 257}},
		{3, 1, map[int]int64{0: 0, 1: 1, 2: 8, 3: 9, 4: 64, 5: 65, 6: 72, 7: 73}},
		{3, 2, map[int]int64{0: 0, 1: 1, 2: 64, 3: 65, 4: 4096, 5: 4097, 6: 4160, 7: 4161}},
		{4, 1, map[int]int64{0: 0, 1: 1, 2: 4, 4: 16, 8: 64, 15: 85}},
		{5, 1, map[int]int64{0: 0, 1: 1, 2: 4, 16: 256, 31: 341}},
		{7, 1, map[int]int64{0: 0, 1: 1, 2: 4, 4: 16, 8: 64, 16: 256, 32: 1024, 64: 4096, 65: 4097, 127: 5461}},
		{7, 2, map[int]int64{0: 0, 1: 1, 2: 8, 64: 262144, 127: 299593}},
	} {
		table := made(t, point.Base(), c.teeth, c.size)
		for i, n := range c.want {
			p, e := table.Look(i)
			if e != api.OK {
				t.Error(int(e))
			}
			same(t, "the table of "+strconv.Itoa(c.teeth)+" at "+strconv.Itoa(i), p, mult(big.NewInt(n), point.Base()))
		}
	}
}

// P11.2: New is ErrRange, if teeth is not from 1 to 7, or size not from 1 to 64, and then there is no table.
func TestNewRange(t *testing.T) {
	for _, teeth := range append(wild(), -7, 0, 1, 7, 8, 9, 64, 256+1, 65536+1) {
		for _, size := range append(wild(), -64, 0, 1, 64, 65, 66, 128, 256+1, 65536+1) {
			c, e := New(point.Base(), teeth, size)
			if teeth >= 1 && teeth <= 7 && size >= 1 && size <= 64 {
				if e != api.OK || c.Len() != 1<<teeth {
					t.Errorf("New of %d, %d: %d", teeth, size, int(e))
				}
				continue
			}
			if e != api.ErrRange || c != nil {
				t.Errorf("New of %d, %d: %v, %d", teeth, size, c, int(e))
			}
		}
	}
	if MaxTeeth != 7 || MaxSize != 64 {
		t.Error("limits:", MaxTeeth, MaxSize)
	}
}

// P11.2: a table's Look is ErrRange, if there is no such place.
func TestTableLookRange(t *testing.T) {
	for teeth := 1; teeth <= MaxTeeth; teeth++ {
		c := made(t, point.Base(), teeth, 3)
		n := c.Len()
		for _, i := range append(wild(), -n, n, n+1, 2*n-1, 2*n, n+256, n+65536) {
			p, e := c.Look(i)
			refused(t, "Look at "+strconv.Itoa(i), p, e, api.ErrRange)
		}
		p, e := c.Look(0)
		if e != api.OK {
			t.Error(int(e))
		}
		same(t, "the first one", p, point.Identity())
		if _, e := c.Look(n - 1); e != api.OK {
			t.Error("the last one:", int(e))
		}
	}
}

// P11.2: Mult of all points' tables, of all teeth, at sizes that they divide, and that they do not.
func TestMult(t *testing.T) {
	for n, c := range points(t) {
		for teeth := 1; teeth <= MaxTeeth; teeth++ {
			for k, size := range []int{1, 2, 3, 7, 8, 55, 56, 57, 58, 63, 64} {
				if (n+3*teeth+5*k)%17 != 0 { // all points, and all combs, but not each with each
					continue
				}
				table := made(t, c.p, teeth, size)
				for _, b := range texts(size) {
					want := mult(number(b), c.p)
					if p := product(t, table, b); !point.Equal(p, want) || !alike(p, want) {
						t.Errorf("Mult of %s, %d teeth, by %x: an other one", c.name, teeth, b)
					}
				}
			}
		}
	}
}

// P11.2: Mult of all numbers of one byte, and many of two, of all teeth.
func TestMultSmall(t *testing.T) {
	base := chance(1, 31)[0]
	for teeth := 1; teeth <= MaxTeeth; teeth++ {
		one, two := made(t, base, teeth, 1), made(t, base, teeth, 2)
		want := point.Identity()
		for n := range 65536 {
			if n < 256 && !point.Equal(product(t, one, []byte{byte(n)}), want) {
				t.Errorf("%d teeth, %d of one byte: an other one", teeth, n)
			}
			if near := n & 255; (n%61 == teeth || near == 0 || near == 255) && !point.Equal(product(t, two, []byte{byte(n), byte(n >> 8)}), want) {
				t.Errorf("%d teeth, %d of two bytes: an other one", teeth, n)
			}
			want = point.Add(want, base)
		}
	}
}

// P11.2: Mult of each bit alone, of many bytes those at rows' ends, so that each row and each column counts, the last ones, too.
func TestMultBits(t *testing.T) {
	base := point.Base()
	for teeth := 1; teeth <= MaxTeeth; teeth++ {
		for _, size := range []int{1, 5, 57, 64} {
			table := made(t, base, teeth, size)
			want, n := base, row(teeth, size)
			for k := range 8 * size {
				end := k%n < 2 || k%n == n-1 || k >= 8*size-2
				if (size < 57 || end || k%29 == teeth) && !point.Equal(product(t, table, text(power(k), size)), want) {
					t.Errorf("%d teeth, size %d, bit %d: an other one", teeth, size, k)
				}
				want = point.Add(want, want)
			}
		}
	}
}

// P11.2: Mult of L's bytes and of 4 L's, of points of all orders.
func TestMultOrder(t *testing.T) {
	q := quarters(t)
	for teeth := 1; teeth <= MaxTeeth; teeth++ {
		for _, size := range []int{56, 57, 64} {
			for k, r := range q {
				p := point.Add(point.Base(), r)
				table := made(t, p, teeth, size)
				same(t, "L times", product(t, table, text(order(), size)), q[3*k%4]) // L leaves 3, divided by 4
				same(t, "4 L times", product(t, table, text(fold(4, order()), size)), point.Identity())
				same(t, "4 L and 1 times", product(t, table, text(less(fold(4, order()), -1), size)), p)
				same(t, "4 L less 1 times", product(t, table, text(less(fold(4, order()), 1), size)), point.Neg(p))
				alone := made(t, r, teeth, size)
				same(t, "L times a quarter", product(t, alone, text(order(), size)), q[3*k%4])
				same(t, "4 L times a quarter", product(t, alone, text(fold(4, order()), size)), point.Identity())
				same(t, "all that is 255", product(t, alone, bytes.Repeat([]byte{255}, size)), q[3*k%4])
			}
		}
	}
}

// P11.2: Mult is ErrSize, if there are not size bytes: none, one less, one more, and others.
func TestMultSize(t *testing.T) {
	whole := some(70000, 5)
	for teeth := 1; teeth <= MaxTeeth; teeth++ {
		for size := 1; size <= MaxSize; size++ {
			c := made(t, point.Identity(), teeth, size)
			for _, n := range []int{0, 1, size - 1, size, size + 1, 2 * size, 56, 57, 63, 64, 65, 66, 255, 256, size + 256, size + 65536} {
				p, e := c.Mult(whole[:n])
				if n == size {
					if e != api.OK {
						t.Errorf("Mult of %d: %d", n, int(e))
					}
					continue
				}
				refused(t, "Mult of "+strconv.Itoa(n)+" for "+strconv.Itoa(size), p, e, api.ErrSize)
				p, e = c.Mult(make([]byte, n))
				refused(t, "Mult of noughts", p, e, api.ErrSize)
			}
			p, e := c.Mult(nil)
			refused(t, "Mult of nil", p, e, api.ErrSize)
		}
	}
}

// P11.2: a nil table: ErrNil, ahead of all others, 0, the identity.
func TestNil(t *testing.T) {
	var c *Table
	if c.Len() != 0 {
		t.Error("Len:", c.Len())
	}
	for _, i := range append(wild(), 0, 1, 2, 127, 128) {
		p, e := c.Look(i)
		refused(t, "Look", p, e, api.ErrNil)
	}
	for n := range 70 {
		p, e := c.Mult(some(n, 1))
		refused(t, "Mult", p, e, api.ErrNil)
	}
	p, e := c.Mult(nil)
	refused(t, "Mult of nil", p, e, api.ErrNil)
	if none, e := New(point.Base(), 0, 0); e != api.ErrRange || none.Len() != 0 {
		t.Error("New's answer beside an error:", int(e))
	}
}

// R1: a table that New did not make has no points and no bytes, and does not panic.
func TestNotMade(t *testing.T) {
	var c Table
	if c.Len() != 0 {
		t.Error("Len:", c.Len())
	}
	for _, i := range append(wild(), 0, 1) {
		p, e := c.Look(i)
		refused(t, "Look", p, e, api.ErrRange)
	}
	for n := 1; n < 70; n++ {
		p, e := c.Mult(some(n, 1))
		refused(t, "Mult", p, e, api.ErrSize)
	}
	same(t, "Mult of no bytes", product(t, &c, nil), point.Identity())
}

// P11.3: Mult of two numbers together is both's together, as long as it has bytes enough, and, of any number, modulo 4 L.
func TestMultTogether(t *testing.T) {
	for n, c := range points(t) {
		for teeth := 1; teeth <= MaxTeeth; teeth++ {
			for k, size := range []int{1, 3, 56, 57, 64} {
				if (n+teeth+k)%3 != 0 {
					continue
				}
				table := made(t, c.p, teeth, size)
				for seed := range uint64(4) {
					a, b := some(size, seed), some(size, seed+100)
					a[size-1] &= 127
					b[size-1] &= 127
					if seed == 0 {
						b = text(less(power(8*size-1), 1), size)
					}
					sum := new(big.Int).Add(number(a), number(b))
					both := point.Add(product(t, table, a), product(t, table, b))
					if !point.Equal(product(t, table, text(sum, size)), both) {
						t.Errorf("%s, %d teeth: %x and %x are not together", c.name, teeth, a, b)
					}
				}
			}
		}
	}
}

// P11.3: Mult of two scalars together is both's together, of the base.
func TestMultScalars(t *testing.T) {
	for teeth := 1; teeth <= MaxTeeth; teeth++ {
		table := made(t, point.Base(), teeth, api.Point)
		for seed := range uint64(12) {
			a, _ := scalar.Reduce(some(api.Point, seed))
			b, _ := scalar.Reduce(some(api.Point, seed+50))
			p, q := product(t, table, scalar.Bytes(a)), product(t, table, scalar.Bytes(b))
			same(t, "both", product(t, table, scalar.Bytes(scalar.Add(a, b))), point.Add(p, q))
			same(t, "one less", product(t, table, scalar.Bytes(scalar.Sub(a, b))), point.Add(p, point.Neg(q)))
			again := made(t, p, teeth, api.Point)
			same(t, "one of one", product(t, again, scalar.Bytes(b)), product(t, table, scalar.Bytes(scalar.Mul(a, b))))
		}
	}
}

// P11.2: what Mult answers does not hang on how many teeth a comb has, nor on noughts behind.
func TestMultTeeth(t *testing.T) {
	for _, c := range points(t) {
		for _, size := range []int{1, 13, 57, 64} {
			b := some(size, uint64(size))
			want := mult(number(b), c.p)
			for teeth := 1; teeth <= MaxTeeth; teeth++ {
				p := product(t, made(t, c.p, teeth, size), b)
				more := product(t, made(t, c.p, teeth, min(size+teeth, 64)), text(number(b), min(size+teeth, 64)))
				if !point.Equal(p, want) || !point.Equal(more, want) {
					t.Errorf("%s, size %d, %d teeth: an other one", c.name, size, teeth)
				}
			}
		}
	}
}

// P11.2: public keys, and first halves of signatures, of RFC 8032, section 7.4.
func TestKnown(t *testing.T) {
	for i, c := range []struct{ seed, public, message, r string }{
		{
			"6c82a562cb808d10d632be89c8513ebf6c929f34ddfa8c9f63c9960ef6e348a3528c8a3fcc2f044e39a3fc5b94492f8f032e7549a20098f95b",
			"5fd7449b59b461fd2ce787ec616ad46a1da1342485a70e1f8a0ea75d80e96778edf124769b46c7061bd6783df1e50f6cd1fa1abeafe8256180", "",
			"533a37f6bbe457251f023c0d88f976ae2dfb504a843e34d2074fd823d41a591f2b233f034f628281f2fd7a22ddd47d7828c59bd0a21bfd3980",
		},
		{
			"c4eab05d357007c632f3dbb48489924d552b08fe0c353a0d4a1f00acda2c463afbea67c5e8d2877c5e3bc397a659949ef8021e954e0a12274e",
			"43ba28f430cdff456ae531545f7ecd0ac834a55d9358c0372bfa0c6c6798c0866aea01eb00742802b8438ea4cb82169c235160627b4c3a9480", "03",
			"26b8f91727bd62897af15e41eb43c377efb9c610d48f2335cb0bd0087810f4352541b143c4b981b7e18f62de8ccdf633fc1bf037ab7cd77980",
		},
		{
			"cd23d24f714274e744343237b93290f511f6425f98e64459ff203e8985083ffdf60500553abc0e05cd02184bdb89c4ccd67e187951267eb328",
			"dcea9e78f35a1bf3499a831b10b86c90aac01cd84b67a0109b55a36e9328b1e365fce161d71ce7131a543ea4cb5f7e9f1d8b00696447001400", "0c3e544074ec63b0265e0c",
			"1f0a8888ce25e8d458a21130879b840a9089d999aaba039eaf3e3afa090a09d389dba82c4ff2ae8ac5cdfb7c55e94d5d961a29fe0109941e00",
		},
	} {
		digest, _ := shake.Sum(2*api.Point, unhex(t, c.seed))
		k, _ := scalar.Clamp(digest[:api.Point])
		digest, _ = shake.Sum(2*api.Point, []byte("SigEd448\x00\x00"), digest[api.Point:], unhex(t, c.message))
		a, _ := scalar.Reduce(digest)
		for teeth := 1; teeth <= MaxTeeth; teeth++ {
			table := made(t, point.Base(), teeth, api.Point)
			if b := coding.Encode(product(t, table, k)); hex.EncodeToString(b) != c.public {
				t.Errorf("%d, %d teeth: %x, not %s", i, teeth, b, c.public)
			}
			if b := coding.Encode(product(t, table, scalar.Bytes(a))); hex.EncodeToString(b) != c.r {
				t.Errorf("%d, %d teeth: %x, not %s", i, teeth, b, c.r)
			}
		}
	}
}

// P11.2: what is put together is told from the highest column on, as long as it is asked for.
func TestParts(t *testing.T) {
	table := made(t, point.Base(), 2, 1)
	var l []point.Point
	for p := range table.parts([]byte{0b1101_1000}) {
		l = append(l, p)
	}
	if len(l) != 4 {
		t.Fatal(len(l))
	}
	for i, n := range []int64{17, 16, 0, 16} {
		same(t, "a column", l[i], mult(big.NewInt(n), point.Base()))
	}
	for n := range 4 {
		told := 0
		for range table.parts([]byte{0b1101_1000}) {
			if told == n {
				break
			}
			told++
		}
		if told != n {
			t.Error(told, "of", n)
		}
	}
}

// R2: what is handed in stays as it is, and so does what stands behind it.
func TestKept(t *testing.T) {
	whole := listed(t, 40)
	kept := slices.Clone(whole)
	for _, n := range []int{0, 1, 2, 17, 39} {
		for _, i := range []int{-1, 0, n / 2, n - 1, n, n + 1} {
			Look(whole[:n], i)
			if !slices.Equal(whole, kept) {
				t.Fatal("Look wrote into its list")
			}
		}
	}
	for teeth := 1; teeth <= MaxTeeth; teeth++ {
		for _, size := range []int{1, 9, 57, 64} {
			c := made(t, point.Base(), teeth, size)
			all := some(200, uint64(size))
			for _, n := range []int{0, size - 1, size, size + 1, 100} {
				c.Mult(all[:n])
				if !bytes.Equal(all, some(200, uint64(size))) {
					t.Fatal("Mult wrote into its bytes")
				}
			}
		}
	}
	for _, c := range points(t) {
		p := c.p
		Powers(p, 3, 2)
		New(p, 3, 2)
		if p != c.p {
			t.Error("a point was turned")
		}
	}
}

// R2: what is answered is the caller's: no answer hangs together with an other one, nor with a table.
func TestOwn(t *testing.T) {
	for _, c := range points(t) {
		first, _ := Powers(c.p, 5, 3)
		second, _ := Powers(c.p, 5, 3)
		first = first[:cap(first)]
		for i := range first {
			first[i] = point.Double(chance(1, 3)[0])
		}
		for i, p := range second {
			same(t, "Powers, when an other answer is turned", p, mult(power(3*i), c.p))
		}
		held(t, c, 5, 3)

		table := made(t, c.p, 3, 2)
		other := made(t, point.Add(c.p, point.Base()), 3, 2)
		p, _ := table.Look(5)
		q := product(t, table, []byte{7, 9})
		p, q = point.Add(p, point.Base()), point.Add(q, point.Base())
		if again, _ := table.Look(5); point.Equal(again, p) || point.Equal(product(t, table, []byte{7, 9}), q) {
			t.Error("a table's answers hang together with it")
		}
		same(t, "Mult, when there is an other table", product(t, table, []byte{7, 9}), mult(big.NewInt(7+9*256), c.p))
		same(t, "Mult of the other one", product(t, other, []byte{7, 9}), mult(big.NewInt(7+9*256), point.Add(c.p, point.Base())))
	}
	list := listed(t, 6)
	p := seen(t, list, 3)
	want := p
	clear(list)
	same(t, "Look, when its list is an other one", p, want)
}

// R2: bytes that are turned when Mult has answered turn nothing.
func TestTurnedBytes(t *testing.T) {
	table := made(t, point.Base(), 5, 57)
	b := some(57, 8)
	want := mult(number(b), point.Base())
	p := product(t, table, b)
	clear(b)
	same(t, "Mult, when its bytes are others", p, want)
	same(t, "Mult of the others", product(t, table, b), point.Identity())
	same(t, "Mult of them again", product(t, table, some(57, 8)), want)
}

// R3: what is answered hangs on the arguments and the table alone, not on calls ahead, of errors, too, nor on who else calls.
func TestOneState(t *testing.T) {
	base := chance(1, 12)[0]
	table := made(t, base, 6, 57)
	list := listed(t, 30)
	var numbers [][]byte
	var wants []point.Point
	for seed := range uint64(8) {
		numbers = append(numbers, some(57, seed))
		wants = append(wants, mult(number(numbers[seed]), base))
	}
	var wait sync.WaitGroup
	for n := range 4 {
		wait.Go(func() {
			for k := range 24 {
				i := k * (2*n + 1) % 8
				if _, e := table.Mult(numbers[i][:56]); e != api.ErrSize {
					t.Error(int(e))
				}
				if _, e := table.Look(64 + n); e != api.ErrRange {
					t.Error(int(e))
				}
				if p, e := table.Mult(numbers[i]); e != api.OK || !point.Equal(p, wants[i]) {
					t.Error("Mult: an other answer:", int(e))
				}
				if p, e := Look(list, k); e != api.OK || !point.Equal(p, list[k]) {
					t.Error("Look: an other answer:", int(e))
				}
				if l, e := Powers(base, 3, n); e != api.OK || !point.Equal(l[2], mult(power(2*n), base)) {
					t.Error("Powers: an other answer:", int(e))
				}
				if p, e := table.Look(1); e != api.OK || !point.Equal(p, base) || table.Len() != 64 {
					t.Error("the table is an other one:", int(e))
				}
			}
		})
	}
	wait.Wait()
}

// P11.2: any bytes, of any comb.
func FuzzMult(f *testing.F) {
	f.Add([]byte{}, 1, 1)
	f.Add([]byte{17}, 2, 1)
	f.Add([]byte{255, 255}, 3, 2)
	f.Add(text(order(), 57), 7, 57)
	f.Add(bytes.Repeat([]byte{255}, 64), 5, 64)
	f.Add(make([]byte, 65), 7, 65)
	f.Add(make([]byte, 3), 8, 3)
	f.Add(make([]byte, 3), -1, math.MinInt)
	f.Fuzz(func(t *testing.T, b []byte, teeth, size int) {
		c, e := New(point.Base(), teeth, size)
		if teeth < 1 || teeth > 7 || size < 1 || size > 64 {
			if c != nil || e != api.ErrRange {
				t.Errorf("New of %d, %d: %d", teeth, size, int(e))
			}
			teeth, size = teeth&3+1, min(max(len(b), 1), 64)
			c, e = New(point.Base(), teeth, size)
		}
		if e != api.OK {
			t.Fatalf("New of %d, %d: %d", teeth, size, int(e))
		}
		if p, e := c.Mult(b); len(b) != size {
			refused(t, "Mult", p, e, api.ErrSize)
		}
		b = append(b, make([]byte, size)...)[:size]
		same(t, "Mult", product(t, c, b), mult(number(b), point.Base()))
	})
}

func BenchmarkNew(b *testing.B) {
	for b.Loop() {
		New(point.Base(), 5, api.Point)
	}
}

func BenchmarkLook(b *testing.B) {
	c := made(b, point.Base(), 5, api.Point)
	for b.Loop() {
		c.Look(17)
	}
}

func BenchmarkMult(b *testing.B) {
	for teeth := 1; teeth <= MaxTeeth; teeth++ {
		b.Run(strconv.Itoa(teeth), func(b *testing.B) {
			c := made(b, point.Base(), teeth, api.Point)
			k := some(api.Point, 1)
			for b.Loop() {
				c.Mult(k)
			}
		})
	}
}
