package number

import (
	"bytes"
	"math"
	"math/big"
	"slices"
	"testing"

	"chicory/api"
)

const most = 1<<64 - 1 // the greatest word

// edges are numbers at which words begin and end, with such as have noughts at their end, and others.
func edges() []Nat {
	l := []Nat{
		nil, {}, {0}, {0, 0, 0},
		{1}, {1, 0}, {2}, {3}, {7}, {255}, {256},
		{1<<63 - 1}, {1 << 63}, {1<<63 + 1}, {most - 1}, {most}, {most, 0, 0},
		{0, 1}, {1, 1}, {0, 1, 0}, {most, 1}, {0, most}, {most, 1<<63 - 1}, {0, 1 << 63}, {1, 1 << 63},
		{most, most}, {0, 0, 1}, {1, 0, 1}, {most, 0, most}, {0, most, most}, {most, most, most}, {0, 0, 0, 0, 1, 0},
	}
	for _, n := range []int{1, 2, 3, 4, 7, 8, 14, 33} {
		l = append(l, some(n, 1), some(n, 2))
	}
	return l
}

// some is n words that are not much like each other.
func some(n int, seed uint64) Nat {
	out := make(Nat, n)
	for i := range out {
		seed = seed*6364136223846793005 + 1442695040888963407
		out[i] = seed ^ seed>>29
	}
	return out
}

// text is n bytes that are not much like each other, the last one not 0.
func text(n int) []byte {
	b := make([]byte, n)
	for i := range b {
		b[i] = byte(i*i + 37*i + i>>8 + n)
	}
	if n > 0 {
		b[n-1] |= 1
	}
	return b
}

// power is 2^k.
func power(k int) Nat {
	out := make(Nat, k/64+1)
	out[k/64] = 1 << (k % 64)
	return out
}

// great is n by an other's hand.
func great(n Nat) *big.Int {
	out := new(big.Int)
	for _, w := range slices.Backward(n) {
		out.Lsh(out, 64).Or(out, new(big.Int).SetUint64(w))
	}
	return out
}

// small is the words of what an other's hand tells.
func small(x *big.Int) Nat {
	var out Nat
	for x = new(big.Int).Set(x); x.Sign() > 0; x.Rsh(x, 64) {
		out = append(out, new(big.Int).And(x, new(big.Int).SetUint64(most)).Uint64())
	}
	return out
}

// same holds n against want, word by word: what is answered has no word that is 0 at its end.
func same(t *testing.T, what string, n, want Nat) {
	t.Helper()
	if !slices.Equal(n, want) {
		t.Errorf("%s: %x, not %x", what, n, want)
	}
}

// well is a number that was answered without an error.
func well(t *testing.T, n Nat, e api.Errno) Nat {
	t.Helper()
	if e != api.OK {
		t.Errorf("error %d", int(e))
	}
	return n
}

// badly is an answer that has to be an error, and nothing beside it.
func badly(t *testing.T, what string, n Nat, e, want api.Errno) {
	t.Helper()
	if len(n) != 0 || e != want {
		t.Errorf("%s: %x %d, not error %d", what, n, int(e), int(want))
	}
}

// P3.2: the chapter's examples.
func TestExamples(t *testing.T) {
	same(t, "Mul", Mul(Nat{most}, Nat{most}), Nat{1, most - 1})
	q, r, e := Div(Nat{7}, Nat{2})
	same(t, "q", q, Nat{3})
	same(t, "r", r, Nat{1})
	if e != api.OK {
		t.Error(int(e))
	}
}

// P3.1: Of: the first byte times 1, the next one times 256.
func TestOf(t *testing.T) {
	for _, c := range []struct {
		b    []byte
		want Nat
	}{
		{nil, nil}, {[]byte{}, nil}, {[]byte{0}, nil}, {make([]byte, 100), nil},
		{[]byte{1}, Nat{1}}, {[]byte{255}, Nat{255}}, {[]byte{0, 1}, Nat{256}}, {[]byte{1, 2, 3}, Nat{0x30201}},
		{[]byte{1, 2, 3, 4, 5, 6, 7, 8}, Nat{0x0807060504030201}},
		{[]byte{1, 2, 3, 4, 5, 6, 7, 8, 9}, Nat{0x0807060504030201, 9}},
		{[]byte{1, 0, 0, 0, 0, 0, 0, 0, 0}, Nat{1}},
		{[]byte{0, 0, 0, 0, 0, 0, 0, 0, 1, 0}, Nat{0, 1}},
		{bytes.Repeat([]byte{255}, 16), Nat{most, most}},
	} {
		same(t, "Of", Of(c.b), c.want)
	}
	for _, n := range []int{1, 7, 8, 9, 15, 16, 17, 56, 57, 114, 65536, 100001} {
		b := text(n)
		want := slices.Clone(b)
		slices.Reverse(want)
		same(t, "Of", Of(b), small(new(big.Int).SetBytes(want)))
		same(t, "Of, with noughts behind", Of(append(b, make([]byte, 20)...)), Of(b))
	}
}

// P3.1: Bytes: just so many, the lowest one first.
func TestBytes(t *testing.T) {
	for _, c := range []struct {
		n    Nat
		size int
		want []byte
	}{
		{nil, 0, nil}, {Nat{0, 0}, 0, nil}, {nil, 3, []byte{0, 0, 0}}, {Nat{0}, 9, make([]byte, 9)},
		{Nat{1}, 1, []byte{1}}, {Nat{1, 0, 0}, 2, []byte{1, 0}}, {Nat{0x30201}, 3, []byte{1, 2, 3}},
		{Nat{0x0807060504030201, 9}, 9, []byte{1, 2, 3, 4, 5, 6, 7, 8, 9}},
		{Nat{0x0807060504030201, 9}, 18, []byte{1, 2, 3, 4, 5, 6, 7, 8, 9, 0, 0, 0, 0, 0, 0, 0, 0, 0}},
	} {
		if b, e := Bytes(c.n, c.size); !bytes.Equal(b, c.want) || e != api.OK {
			t.Errorf("Bytes(%x, %d): %x %d", c.n, c.size, b, int(e))
		}
	}
	for _, n := range edges() {
		for _, more := range []int{0, 1, 7, 8, 20} {
			size := (great(n).BitLen()+7)/8 + more
			want := great(n).FillBytes(make([]byte, size))
			slices.Reverse(want)
			if b, e := Bytes(n, size); !bytes.Equal(b, want) || e != api.OK {
				t.Errorf("Bytes(%x, %d): %x %d", n, size, b, int(e))
			}
		}
	}
}

// P3.1: the edges of a size, and that ErrRange goes ahead of ErrSize.
func TestBytesRange(t *testing.T) {
	if b, e := Bytes(Nat{5}, 65536); len(b) != 65536 || b[0] != 5 || !bytes.Equal(b[1:], make([]byte, 65535)) || e != api.OK {
		t.Error(len(b), int(e))
	}
	for _, n := range []Nat{nil, {0}, {5}, power(8 * 65536), power(8 * 65537)} {
		for _, size := range []int{-1, -8, 65537, 65600, math.MinInt, math.MaxInt} {
			if b, e := Bytes(n, size); len(b) != 0 || e != api.ErrRange {
				t.Errorf("%d words in %d: %d bytes, %d", len(n), size, len(b), int(e))
			}
		}
	}
}

// P3.1: 256^size is too great, one less is not.
func TestBytesSize(t *testing.T) {
	for _, size := range []int{0, 1, 2, 7, 8, 9, 15, 16, 17, 56, 57, 65535, 65536} {
		above := power(8 * size)
		for _, n := range []Nat{above, append(slices.Clone(above), 0, 0), Add(above, Nat{1}), Add(above, power(8*size+65))} {
			if b, e := Bytes(n, size); len(b) != 0 || e != api.ErrSize {
				t.Errorf("%d words in %d: %d bytes, %d", len(n), size, len(b), int(e))
			}
		}
		below, e := Sub(above, Nat{1})
		below = append(well(t, below, e), 0)
		if b, e := Bytes(below, size); !bytes.Equal(b, bytes.Repeat([]byte{255}, size)) || e != api.OK {
			t.Errorf("one less in %d: %d bytes, %d", size, len(b), int(e))
		}
	}
}

// P3.1: Len.
func TestLen(t *testing.T) {
	for _, n := range edges() {
		if k := Len(n); k != great(n).BitLen() {
			t.Errorf("Len(%x): %d", n, k)
		}
	}
	for k := range 300 {
		if n := Len(power(k)); n != k+1 {
			t.Errorf("Len of 2^%d: %d", k, n)
		}
		if n := Len(append(power(k), 0, 0)); n != k+1 {
			t.Errorf("Len of 2^%d, with noughts behind: %d", k, n)
		}
		below, e := Sub(power(k), Nat{1})
		if n := Len(well(t, below, e)); n != k {
			t.Errorf("Len of 2^%d - 1: %d", k, n)
		}
	}
}

// P3.1: each bit, and those below 0 and beyond the highest one.
func TestBit(t *testing.T) {
	for _, n := range edges() {
		x := great(n)
		for i := range 64*len(n) + 130 {
			if b := Bit(n, i); b != int(x.Bit(i)) {
				t.Errorf("Bit(%x, %d): %d", n, i, b)
			}
		}
		for _, i := range []int{-1, -2, -63, -64, -65, -128, math.MinInt, math.MaxInt, math.MaxInt - 63, 1 << 32, 64 * 1000} {
			if b := Bit(n, i); b != 0 {
				t.Errorf("Bit(%x, %d): %d", n, i, b)
			}
		}
	}
}

// P3.1: Compare, of all pairs of edges: by words from the highest one on, noughts at the end not counting.
func TestCompare(t *testing.T) {
	for _, a := range edges() {
		for _, b := range edges() {
			if c := Compare(a, b); c != great(a).Cmp(great(b)) {
				t.Errorf("Compare(%x, %x): %d", a, b, c)
			}
		}
	}
}

// P3.2: Add and Mul, of all pairs of edges.
func TestAddMul(t *testing.T) {
	for _, a := range edges() {
		for _, b := range edges() {
			same(t, "Add", Add(a, b), small(new(big.Int).Add(great(a), great(b))))
			same(t, "Mul", Mul(a, b), small(new(big.Int).Mul(great(a), great(b))))
		}
	}
}

// P3.2: what goes over goes on through all words.
func TestCarry(t *testing.T) {
	for n := range 20 {
		full := slices.Repeat(Nat{most}, n)
		above := power(64 * n)
		same(t, "Add", Add(full, Nat{1}), above)
		same(t, "Add", Add(Nat{1, 0}, full), above)
		left, e := Sub(above, Nat{1})
		same(t, "Sub", well(t, left, e), full)
		same(t, "Mul", Mul(full, full), small(new(big.Int).Mul(great(full), great(full))))
	}
}

// P3.2: Sub, of all pairs of edges: what is left, or ErrRange.
func TestSub(t *testing.T) {
	for _, a := range edges() {
		for _, b := range edges() {
			n, e := Sub(a, b)
			want := new(big.Int).Sub(great(a), great(b))
			if want.Sign() < 0 {
				badly(t, "Sub", n, e, api.ErrRange)
				continue
			}
			same(t, "Sub", well(t, n, e), small(want))
		}
	}
}

// P3.2: Sub of a number and itself is 0; of one that is less by 1 alone, ErrRange.
func TestSubEdges(t *testing.T) {
	for _, a := range edges() {
		n, e := Sub(a, a)
		same(t, "Sub of itself", well(t, n, e), nil)
		n, e = Sub(append(slices.Clone(a), 0), a)
		same(t, "Sub of itself, with a nought behind", well(t, n, e), nil)
		n, e = Sub(a, append(slices.Clone(a), 0, 0))
		same(t, "Sub of itself, with noughts behind", well(t, n, e), nil)
		n, e = Sub(a, Add(a, Nat{1}))
		badly(t, "Sub of one more", n, e, api.ErrRange)
		n, e = Sub(Add(a, Nat{1}), a)
		same(t, "Sub of one less", well(t, n, e), Nat{1})
	}
}

// P3.2: Shift by numbers that are so many times 64 or not, up and down.
func TestShift(t *testing.T) {
	for _, n := range edges() {
		for _, by := range []int{0, 1, 2, 7, 8, 31, 32, 62, 63, 64, 65, 100, 127, 128, 129, 191, 192, 193, 1000, 65535, 65536} {
			up, e := Shift(n, by)
			same(t, "up", well(t, up, e), small(new(big.Int).Lsh(great(n), uint(by))))
			down, e := Shift(n, -by)
			same(t, "down", well(t, down, e), small(new(big.Int).Rsh(great(n), uint(by))))
			back, e := Shift(append(up, 0), -by)
			same(t, "up and down", well(t, back, e), small(great(n)))
		}
	}
}

// P3.2: the edges of how far bits may go.
func TestShiftRange(t *testing.T) {
	n, e := Shift(Nat{1}, 65536)
	same(t, "up", well(t, n, e), power(65536))
	n, e = Shift(power(65536), -65536)
	same(t, "down", well(t, n, e), Nat{1})
	n, e = Shift(some(2000, 3), -65536)
	same(t, "down, of many words", well(t, n, e), some(2000, 3)[1024:])
	n, e = Shift(slices.Repeat(Nat{most}, 1024), -65536)
	same(t, "down, to nothing", well(t, n, e), nil)
	for _, by := range []int{65537, -65537, 65600, -65600, 1 << 32, -(1 << 32), math.MaxInt, math.MinInt} {
		for _, x := range []Nat{nil, {0}, {1}, some(1100, 1)} {
			n, e := Shift(x, by)
			badly(t, "Shift", n, e, api.ErrRange)
		}
	}
}

// divides holds Div of a and b against what an other's hand tells.
func divides(t *testing.T, a, b Nat) {
	t.Helper()
	q, r, e := Div(a, b)
	if great(b).Sign() == 0 {
		badly(t, "q", q, e, api.ErrZero)
		badly(t, "r", r, e, api.ErrZero)
		return
	}
	wantQ, wantR := new(big.Int).QuoRem(great(a), great(b), new(big.Int))
	same(t, "q", well(t, q, e), small(wantQ))
	same(t, "r", r, small(wantR))
}

// P3.2: Div, of all pairs of edges, 0 among them.
func TestDiv(t *testing.T) {
	for _, a := range edges() {
		for _, b := range edges() {
			divides(t, a, b)
		}
	}
}

// P3.2: Div by 0, by 1, of a number by itself, and by one that is greater by 1 alone.
func TestDivEdges(t *testing.T) {
	for _, a := range edges() {
		for _, none := range []Nat{nil, {}, {0}, {0, 0, 0}} {
			divides(t, a, none)
		}
		q, r, e := Div(a, Nat{1, 0})
		same(t, "by 1", well(t, q, e), small(great(a)))
		same(t, "left by 1", r, nil)
		if Len(a) > 0 {
			q, r, e = Div(a, append(slices.Clone(a), 0))
			same(t, "by itself", well(t, q, e), Nat{1})
			same(t, "left by itself", r, nil)
		}
		q, r, e = Div(a, Add(a, Nat{1}))
		same(t, "by one more", well(t, q, e), nil)
		same(t, "left by one more", r, small(great(a)))
	}
}

// P3.2: Div of what is just so many times a number, of one less and of one more, at numbers of all lengths.
func TestDivNear(t *testing.T) {
	for k := range 200 {
		for _, b := range []Nat{power(k), Add(power(k), Nat{1}), Add(power(k), power(k/2))} {
			for _, q := range []Nat{{1}, {2}, {most}, {0, 1}, some(2, 9)} {
				n := Mul(b, q)
				less, e := Sub(n, Nat{1})
				divides(t, well(t, less, e), b)
				divides(t, n, b)
				divides(t, Add(n, Nat{1}), b)
			}
		}
	}
}

// P3.3: Of of Bytes is the number, and Bytes of Of the bytes.
func TestOfBytes(t *testing.T) {
	for _, n := range edges() {
		for _, more := range []int{0, 1, 9} {
			b, e := Bytes(n, (Len(n)+7)/8+more)
			if e != api.OK {
				t.Error(int(e))
			}
			same(t, "Of of Bytes", Of(b), small(great(n)))
		}
	}
	for _, size := range []int{0, 1, 7, 8, 9, 56, 57, 1000, 65535, 65536} {
		if b, e := Bytes(Of(text(size)), size); !bytes.Equal(b, text(size)) || e != api.OK {
			t.Errorf("%d bytes: %d", size, int(e))
		}
	}
}

// P3.3: a is b times q, and r, r being less than b; what is less and what is left come together again.
func TestTogether(t *testing.T) {
	for _, a := range edges() {
		for _, b := range edges() {
			if q, r, e := Div(a, b); e == api.OK {
				same(t, "b times q, and r", Add(Mul(b, q), r), small(great(a)))
				if Compare(r, b) >= 0 {
					t.Errorf("Div(%x, %x) leaves %x", a, b, r)
				}
			}
			if d, e := Sub(a, b); e == api.OK {
				same(t, "less and left", Add(d, b), small(great(a)))
			}
			d, e := Sub(Add(a, b), b)
			same(t, "a sum, less", well(t, d, e), small(great(a)))
		}
	}
}

// answers are all lists of words that calls of a and b answer.
func answers(a, b Nat) []Nat {
	c, _ := Sub(a, b)
	d, _ := Sub(b, a)
	same, _ := Shift(a, 0)
	up, _ := Shift(a, 65)
	down, _ := Shift(a, -3)
	words, _ := Shift(a, -64)
	q, r, _ := Div(a, b)
	x, y, _ := Div(b, a)
	return []Nat{Add(a, b), Add(b, a), Mul(a, b), Mul(b, a), c, d, same, up, down, words, q, r, x, y}
}

// kept is n with others behind its length.
func kept(n Nat) Nat { return slices.Concat(n, Nat{11, 12, 13}) }

// R2: what is handed in, and what stands behind its length, stays as it is, whatever becomes of what is answered.
func TestHandedInIsKept(t *testing.T) {
	for _, m := range edges() {
		for _, n := range edges() {
			a, b := kept(m), kept(n)
			l := answers(a[:len(m)], b[:len(n)])
			Compare(a[:len(m)], b[:len(n)])
			Len(a[:len(m)])
			Bit(a[:len(m)], 3)
			for i := range l {
				clear(l[i][:cap(l[i])])
				l[i] = append(l[i], 99)
			}
			same(t, "a", a, kept(m))
			same(t, "b", b, kept(n))
		}
	}
}

// R2: no two lists that are answered share anything, and none hangs on what becomes of what was handed in.
func TestAnsweredIsNew(t *testing.T) {
	for _, m := range edges() {
		for _, n := range edges() {
			a, b := slices.Clone(m), slices.Clone(n)
			l, want := answers(a, b), answers(m, n)
			clear(a)
			clear(b)
			for i := range l {
				same(t, "answered", l[i], want[i])
				clear(l[i][:cap(l[i])])
				l[i] = append(l[i], 99)
			}
		}
	}
}

// R2: bytes that are handed in stay as they are, and those that are answered are new.
func TestBytesAreNew(t *testing.T) {
	for _, n := range []int{0, 1, 7, 8, 9, 57} {
		whole := text(80)
		x := Of(whole[:n])
		want := Of(text(80)[:n])
		clear(x[:cap(x)])
		if !bytes.Equal(whole, text(80)) {
			t.Errorf("%d bytes: written into", n)
		}
		x = Of(whole[:n])
		clear(whole)
		same(t, "Of", x, want)
		a, _ := Bytes(x, 60)
		b, _ := Bytes(x, 60)
		clear(a[:cap(a)])
		same(t, "Bytes", Of(b), want)
		same(t, "handed to Bytes", x, want)
	}
}

// One number may stand at both places.
func TestTwice(t *testing.T) {
	for _, n := range edges() {
		a := slices.Clone(n)
		x := great(n)
		same(t, "Add", Add(a, a), small(new(big.Int).Add(x, x)))
		same(t, "Mul", Mul(a, a), small(new(big.Int).Mul(x, x)))
		divides(t, a, a)
		same(t, "handed in", a, n)
	}
}

// P3.2: numbers of many words.
func TestMany(t *testing.T) {
	a, b := some(700, 5), some(300, 6)
	same(t, "Mul", Mul(a, b), small(new(big.Int).Mul(great(a), great(b))))
	divides(t, a, b)
	divides(t, a, Nat{3})
	divides(t, b, a)
	divides(t, power(64*600), slices.Repeat(Nat{most}, 290))
}

// All calls, of any bytes, against an other's hand.
func FuzzCalls(f *testing.F) {
	f.Add([]byte{7}, []byte{2}, 1)
	f.Add(bytes.Repeat([]byte{255}, 24), []byte{0, 0, 0, 0, 0, 0, 0, 0, 1, 0, 0}, -65)
	f.Add([]byte{}, []byte{0}, 65537)
	f.Fuzz(func(t *testing.T, p, s []byte, by int) {
		a, b := append(Of(p), 0), Of(s)
		x, y := great(a), great(b)
		same(t, "Add", Add(a, b), small(new(big.Int).Add(x, y)))
		same(t, "Mul", Mul(a, b), small(new(big.Int).Mul(x, y)))
		if c := Compare(a, b); c != x.Cmp(y) {
			t.Error(c)
		}
		if k := Len(a); k != x.BitLen() {
			t.Error(k)
		}
		divides(t, a, b)
		n, e := Sub(a, b)
		if x.Cmp(y) < 0 {
			badly(t, "Sub", n, e, api.ErrRange)
		} else {
			same(t, "Sub", well(t, n, e), small(new(big.Int).Sub(x, y)))
		}
		n, e = Shift(a, by)
		switch {
		case by < -65536 || by > 65536:
			badly(t, "Shift", n, e, api.ErrRange)
		case by < 0:
			same(t, "Shift", well(t, n, e), small(new(big.Int).Rsh(x, uint(-by))))
		default:
			same(t, "Shift", well(t, n, e), small(new(big.Int).Lsh(x, uint(by))))
		}
	})
}

func BenchmarkMul(b *testing.B) {
	x, y := some(7, 1), some(7, 2)
	for range b.N {
		Mul(x, y)
	}
}

func BenchmarkDiv(b *testing.B) {
	x, y := some(14, 1), some(7, 2)
	for range b.N {
		Div(x, y)
	}
}

func BenchmarkDivGreat(b *testing.B) {
	x, y := some(8192, 1), some(4096, 2)
	for range b.N {
		Div(x, y)
	}
}
