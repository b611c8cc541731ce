package shake

import (
	"bytes"
	"crypto/sha3"
	"math"
	"slices"
	"testing"

	"chicory/api"
	"chicory/keccak"
)

// sizes are those at which blocks begin and end, and others.
var sizes = []int{0, 1, 2, 7, 8, 134, 135, 136, 137, 138, 200, 271, 272, 273, 407, 408, 409, 1000}

// text is n bytes that are not much like each other.
func text(n int) []byte {
	b := make([]byte, n)
	for i := range b {
		b[i] = byte(i*i + 37*i + i>>8 + n)
	}
	return b
}

// told is the first n bytes that b tells, by the chapter's words: all of b is filled up, and then gone through.
func told(t *testing.T, n int, b []byte) []byte {
	t.Helper()
	b = append(slices.Clone(b), 31)
	for len(b)%136 != 0 {
		b = append(b, 0)
	}
	b[len(b)-1] ^= 128
	var s keccak.State
	for block := range slices.Chunk(b, 136) {
		x, e := keccak.Xor(s, block)
		if e != api.OK {
			t.Fatal(int(e))
		}
		s = keccak.Permute(x)
	}
	var out []byte
	for len(out) < n {
		out = append(out, keccak.Bytes(s)[:136]...)
		s = keccak.Permute(s)
	}
	return out[:n]
}

// other is the first n bytes that b tells, by an other's hand.
func other(n int, b []byte) []byte { return sha3.SumSHAKE256(b, n) }

// write lets h take b.
func write(t *testing.T, h *Hash, b []byte) {
	t.Helper()
	if e := h.Write(b); e != api.OK {
		t.Errorf("Write of %d bytes: %d", len(b), int(e))
	}
}

// taken is a hash that has taken b.
func taken(t *testing.T, b []byte) *Hash {
	t.Helper()
	h := New()
	write(t, h, b)
	return h
}

// reads asks h for as many bytes as want has, and holds them against it.
func reads(t *testing.T, h *Hash, want []byte) {
	t.Helper()
	b, e := h.Read(len(want))
	if !bytes.Equal(b, want) || e != api.OK {
		t.Errorf("Read(%d): %x %d, not %x", len(want), b, int(e), want)
	}
}

// refused asks h for n bytes, which it may not be asked for.
func refused(t *testing.T, h *Hash, n int, want api.Errno) {
	t.Helper()
	if b, e := h.Read(n); len(b) != 0 || e != want {
		t.Errorf("Read(%d): %x %d", n, b, int(e))
	}
}

// P2.2: the chapter's example.
func TestExample(t *testing.T) {
	if b, e := Sum(4); !bytes.Equal(b, []byte{70, 185, 221, 43}) || e != api.OK {
		t.Error(b, int(e))
	}
}

// P2.2: the words of the chapter, and an other's hand, at sizes of both sides.
func TestSum(t *testing.T) {
	for _, size := range sizes {
		for _, n := range sizes {
			b, e := Sum(n, text(size))
			if e != api.OK || len(b) != n {
				t.Fatal(size, n, len(b), int(e))
			}
			if want := told(t, n, text(size)); !bytes.Equal(b, want) {
				t.Errorf("%d of %d bytes: %x, not %x", n, size, b, want)
			}
			if want := other(n, text(size)); !bytes.Equal(b, want) {
				t.Errorf("%d of %d bytes: %x, by an other %x", n, size, b, want)
			}
		}
	}
}

// P2.2: each size of up to four blocks that is taken.
func TestSumAllSizes(t *testing.T) {
	for size := range 4*136 + 2 {
		if b, e := Sum(64, text(size)); !bytes.Equal(b, other(64, text(size))) || e != api.OK {
			t.Errorf("%d bytes: %x %d", size, b, int(e))
		}
	}
}

// P2.2: Sum without pieces, and of pieces without bytes, is that of nothing.
func TestSumOfNothing(t *testing.T) {
	want := other(300, nil)
	for i, l := range [][][]byte{nil, {}, {nil}, {{}}, {nil, {}, nil}} {
		if b, e := Sum(300, l...); !bytes.Equal(b, want) || e != api.OK {
			t.Errorf("%d: %x %d", i, b, int(e))
		}
	}
}

// P2.2: pieces are taken one behind the other, in their order.
func TestSumPieces(t *testing.T) {
	l := [][]byte{text(100), nil, text(35), {}, text(1), text(272), text(1), text(136)}
	if b, e := Sum(200, l...); !bytes.Equal(b, other(200, bytes.Join(l, nil))) || e != api.OK {
		t.Errorf("%x %d", b, int(e))
	}
	ab, _ := Sum(32, []byte("a"), []byte("b"))
	ba, _ := Sum(32, []byte("b"), []byte("a"))
	if bytes.Equal(ab, ba) {
		t.Errorf("both %x", ab)
	}
}

// P2.2: Read's error of n, whatever the pieces are.
func TestSumRange(t *testing.T) {
	for _, n := range []int{-1, 65537, math.MinInt, math.MaxInt} {
		for _, l := range [][][]byte{nil, {nil}, {text(1), text(137)}} {
			if b, e := Sum(n, l...); len(b) != 0 || e != api.ErrRange {
				t.Errorf("Sum(%d): %x %d", n, b, int(e))
			}
		}
	}
	for _, n := range []int{0, 65536} {
		if b, e := Sum(n, text(9)); !bytes.Equal(b, other(n, text(9))) || e != api.OK {
			t.Errorf("Sum(%d): %d bytes, %d", n, len(b), int(e))
		}
	}
}

// P2.1: a new hash has taken nothing; what it took is told.
func TestHash(t *testing.T) {
	reads(t, New(), other(300, nil))
	for _, size := range sizes {
		for _, n := range sizes {
			reads(t, taken(t, text(size)), other(n, text(size)))
		}
	}
}

// P2.1: bytes are taken behind those that were.
func TestWriteBehind(t *testing.T) {
	for _, a := range sizes {
		for _, b := range sizes {
			h := taken(t, text(a))
			write(t, h, text(b))
			reads(t, h, other(140, append(text(a), text(b)...)))
		}
	}
}

// P2.1: the edges of what may be asked for.
func TestReadRange(t *testing.T) {
	for _, n := range []int{0, 1, 136, 137, 65535, 65536} {
		reads(t, taken(t, text(50)), other(n, text(50)))
	}
	for _, n := range []int{-1, 65537, 65536 + 136, math.MinInt, math.MaxInt} {
		refused(t, New(), n, api.ErrRange)
		refused(t, taken(t, text(50)), n, api.ErrRange)
	}
}

// P2.1: each Read tells what is behind the last one, far beyond what one alone may tell.
func TestReadOn(t *testing.T) {
	want := other(3*65536+136, text(200))
	h := taken(t, text(200))
	for _, n := range []int{65536, 0, 65536, 136, 65536} {
		reads(t, h, want[:n])
		want = want[n:]
	}
}

// P2.1, R1: a Read that is refused tells nothing, and changes nothing, before and between others.
func TestReadRefused(t *testing.T) {
	want := other(400, text(137))
	h := taken(t, text(137))
	for i := range 4 {
		refused(t, h, -1, api.ErrRange)
		reads(t, h, want[100*i:100*i+100])
		refused(t, h, 65537, api.ErrRange)
	}
}

// P2.1: behind a Read that answered OK, be it of no bytes, Write is ErrState, and nothing is taken.
func TestWriteBehindRead(t *testing.T) {
	for _, size := range []int{0, 1, 135, 136, 137} {
		for _, n := range []int{0, 1, 135, 136, 137, 65536} {
			want := other(n+150, text(size))
			h := taken(t, text(size))
			reads(t, h, want[:n])
			for _, b := range [][]byte{nil, {}, {1}, text(136), text(300)} {
				if e := h.Write(b); e != api.ErrState {
					t.Errorf("Write of %d bytes behind Read(%d): %d", len(b), n, int(e))
				}
			}
			reads(t, h, want[n:])
		}
	}
}

// P2.1: behind a Read that answered ErrRange bytes are taken as before.
func TestWriteBehindRefused(t *testing.T) {
	for _, n := range []int{-1, 65537} {
		h := New()
		refused(t, h, n, api.ErrRange)
		write(t, h, text(100))
		refused(t, h, n, api.ErrRange)
		write(t, h, text(36))
		refused(t, h, n, api.ErrRange)
		write(t, h, text(1))
		reads(t, h, other(200, slices.Concat(text(100), text(36), text(1))))
		refused(t, h, n, api.ErrRange)
		if e := h.Write(text(1)); e != api.ErrState {
			t.Error(n, int(e))
		}
	}
}

// P2.1: once reset, a hash is as a new one, whatever it took and told; bytes are taken again.
func TestReset(t *testing.T) {
	for _, size := range sizes {
		for _, n := range []int{-1, 0, 1, 136, 137, 300} {
			h := taken(t, text(size))
			h.Read(n)
			h.Reset()
			reads(t, h.Clone(), other(300, nil))
			write(t, h, text(20))
			reads(t, h, other(300, text(20)))
			h.Reset()
			h.Reset()
			write(t, h, text(size))
			reads(t, h, other(300, text(size)))
		}
	}
}

// P2.1: a clone goes on as its hash would, in taking, and neither counts for the other.
func TestCloneTaking(t *testing.T) {
	for _, size := range sizes {
		h := taken(t, text(size))
		g, kept := h.Clone(), h.Clone()
		write(t, h, []byte("one way"))
		write(t, g, text(150))
		reads(t, g, other(200, append(text(size), text(150)...)))
		write(t, h, text(3))
		g.Reset()
		reads(t, h, other(200, slices.Concat(text(size), []byte("one way"), text(3))))
		reads(t, kept, other(200, text(size)))
	}
}

// P2.1: a clone goes on as its hash would, in telling: it tells what is behind, and takes no more.
func TestCloneTelling(t *testing.T) {
	for _, n := range sizes {
		want := other(n+400, text(140))
		h := taken(t, text(140))
		reads(t, h, want[:n])
		g := h.Clone()
		if e := g.Write(nil); e != api.ErrState {
			t.Error(n, int(e))
		}
		reads(t, g, want[n:n+137])
		reads(t, h, want[n:n+300])
		reads(t, g, want[n+137:n+250])
		h.Reset()
		reads(t, g, want[n+250:])
		write(t, h, nil)
	}
}

// P2.2, R1: a nil hash: ErrNil ahead of any other error, and nothing.
func TestNil(t *testing.T) {
	var h *Hash
	for _, b := range [][]byte{nil, {}, text(200)} {
		if e := h.Write(b); e != api.ErrNil {
			t.Error(len(b), int(e))
		}
	}
	for _, n := range []int{0, 1, 65536, -1, 65537} {
		refused(t, h, n, api.ErrNil)
	}
	h.Reset()
	if h.Clone() != nil {
		t.Error("a clone of none")
	}
}

// P2.3: bytes may be taken in any pieces: one by one, cut at each place, and of each length.
func TestTakenInPieces(t *testing.T) {
	all := text(300)
	want := other(100, all)
	for k := 1; k <= len(all); k++ {
		h := New()
		for piece := range slices.Chunk(all, k) {
			write(t, h, piece)
		}
		reads(t, h, want)
		if b, e := Sum(100, slices.Collect(slices.Chunk(all, k))...); !bytes.Equal(b, want) || e != api.OK {
			t.Errorf("Sum of pieces of %d: %x %d", k, b, int(e))
		}
		if b, e := Sum(100, all[:k], nil, all[k:]); !bytes.Equal(b, want) || e != api.OK {
			t.Errorf("Sum cut at %d: %x %d", k, b, int(e))
		}
	}
}

// P2.3: bytes may be told in any pieces; noughts of them, between, do not count.
func TestToldInPieces(t *testing.T) {
	want := other(420, text(77))
	for k := 1; k <= len(want); k++ {
		h := taken(t, text(77))
		for piece := range slices.Chunk(want, k) {
			reads(t, h, piece)
			reads(t, h, nil)
		}
	}
}

// P2.3: the first bytes do not hang on how many are told.
func TestFirstBytes(t *testing.T) {
	whole, _ := Sum(65536, text(60))
	for n := range 420 {
		if b, e := Sum(n, text(60)); !bytes.Equal(b, whole[:n]) || e != api.OK {
			t.Errorf("%d: %x %d", n, b, int(e))
		}
	}
}

// P2.1: much more than a text is taken.
func TestMuch(t *testing.T) {
	all := text(1<<20 + 13)
	want := other(200, all)
	reads(t, taken(t, all), want)
	if b, e := Sum(200, all[:1<<19], all[1<<19:]); !bytes.Equal(b, want) || e != api.OK {
		t.Errorf("%x %d", b, int(e))
	}
}

// R2: what is handed in, and what stands behind its length, is neither written into nor looked at.
func TestHandedInIsKept(t *testing.T) {
	for _, n := range []int{0, 1, 135, 136, 137, 272} {
		whole := text(500)
		reads(t, taken(t, whole[:n]), other(150, text(500)[:n]))
		l := [][]byte{whole[:n], whole[n : n+9], {7}}
		Sum(150, l[:2]...)
		if !bytes.Equal(whole, text(500)) {
			t.Errorf("%d bytes: written into", n)
		}
		if len(l[0]) != n || len(l[1]) != 9 || len(l[2]) != 1 {
			t.Errorf("%d bytes: pieces written into", n)
		}
	}
}

// R2: what was handed in is the caller's again: writing into it later on does not count.
func TestHandedInIsLetGo(t *testing.T) {
	for _, n := range []int{1, 135, 136, 137, 272} {
		b := text(n)
		h := taken(t, b)
		g := h.Clone()
		clear(b)
		reads(t, h, other(150, text(n)))
		reads(t, g, other(150, text(n)))
	}
}

// R2: what is answered is the caller's: writing into it, and behind it, does not count.
func TestAnsweredIsNew(t *testing.T) {
	want := other(600, text(10))
	h := taken(t, text(10))
	for i := range 6 {
		b, e := h.Read(100)
		if !bytes.Equal(b, want[100*i:100*i+100]) || e != api.OK {
			t.Errorf("%d: %x %d", i, b, int(e))
		}
		clear(b[:cap(b)])
	}
	a, _ := Sum(100, text(10))
	clear(a[:cap(a)])
	if b, _ := Sum(100, text(10)); !bytes.Equal(b, want[:100]) {
		t.Errorf("%x", b)
	}
}

// R3: hashes that go side by side do not count for each other.
func TestSideBySide(t *testing.T) {
	a, b := New(), New()
	for i := range 200 {
		write(t, a, []byte{byte(i)})
		write(t, b, []byte{byte(2 * i), byte(i)})
		Sum(3, text(i))
	}
	var x, y []byte
	for i := range 200 {
		x = append(x, byte(i))
		y = append(y, byte(2*i), byte(i))
	}
	wantA, wantB := other(300, x), other(300, y)
	for i := range 3 {
		reads(t, a, wantA[100*i:100*i+100])
		reads(t, b, wantB[100*i:100*i+100])
	}
}

// P2.1: any row of calls answers as one that keeps all that was taken, and how much was told.
func FuzzCalls(f *testing.F) {
	f.Add([]byte{0, 136, 1, 0, 0, 1, 3, 0, 1, 200, 2, 0, 0, 9, 1, 137})
	f.Add([]byte{4, 0, 0, 135, 4, 1, 0, 1, 3, 0, 1, 136, 4, 0, 1, 1, 0, 0})
	f.Fuzz(func(t *testing.T, calls []byte) {
		h := New()
		var took []byte
		at, tells := 0, false
		for c := range slices.Chunk(calls, 2) {
			if len(c) < 2 {
				break
			}
			n := int(c[1])
			switch c[0] % 5 {
			case 0:
				want := api.OK
				if tells {
					want = api.ErrState
				} else {
					took = append(took, text(n)...)
				}
				if e := h.Write(text(n)); e != want {
					t.Fatal(int(e))
				}
			case 1:
				reads(t, h, other(at+n, took)[at:])
				at, tells = at+n, true
			case 2:
				h.Reset()
				took, at, tells = nil, 0, false
			case 3:
				old := h
				h = h.Clone()
				old.Write(text(5))
				old.Read(5)
			case 4:
				refused(t, h, -1-n, api.ErrRange)
				refused(t, h, 65537+n, api.ErrRange)
			}
		}
	})
}

func BenchmarkSum(b *testing.B) {
	all := text(65536)
	b.SetBytes(int64(len(all)))
	for range b.N {
		Sum(64, all)
	}
}
