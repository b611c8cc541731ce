// Package keccak is layer 1, the permutation of 1600 bits: see shared/doc/01-keccak.md.
package keccak

import (
	"math/bits"

	"chicory/api"
)

const (
	rounds = 24  // of a permutation
	side   = 5   // lanes in a row, and in a column
	octets = 8   // bytes of a lane
	size   = 200 // bytes of a state
)

// constants are the rounds' own, by the chapter's row of bits.
var constants = [rounds]uint64{
	0x0000000000000001, 0x0000000000008082, 0x800000000000808a, 0x8000000080008000,
	0x000000000000808b, 0x0000000080000001, 0x8000000080008081, 0x8000000000008009,
	0x000000000000008a, 0x0000000000000088, 0x0000000080008009, 0x000000008000000a,
	0x000000008000808b, 0x800000000000008b, 0x8000000000008089, 0x8000000000008003,
	0x8000000000008002, 0x8000000000000080, 0x000000000000800a, 0x800000008000000a,
	0x8000000080008081, 0x8000000000008080, 0x0000000080000001, 0x8000000080008008,
}

// offsets are what lanes are turned by, that of x, y at x + 5y.
var offsets = [25]int{
	0, 1, 62, 28, 27,
	36, 44, 6, 55, 20,
	3, 10, 43, 25, 39,
	41, 45, 15, 21, 8,
	18, 2, 61, 56, 14,
}

// State is 25 lanes.
type State [25]uint64

// Permute is what 24 rounds make of a state.
func Permute(s State) State {
	for r := range rounds {
		s = spread(s)
		s = turn(s)
		s = bend(s)
		s[0] ^= constants[r]
	}
	return s
}

// at is the place of the lane at x, y, of which y is below 5: x alone goes beyond, in a round's reckoning.
func at(x, y int) int { return x%side + side*y }

// spread lets each lane hang on the two columns beside its own.
func spread(a State) State {
	var sums [side]uint64
	for i, lane := range a {
		sums[i%side] ^= lane
	}
	column := func(x, k int) uint64 { return bits.RotateLeft64(sums[x%side], k) }
	for x := range side {
		d := column(x+side-1, 0) ^ column(x+1, 1)
		for y := range side {
			a[at(x, y)] ^= d
		}
	}
	return a
}

// turn moves each lane to its next place, turned by its offset.
func turn(a State) State {
	var b State
	for y := range side {
		for x := range side {
			b[at(y, (2*x+3*y)%side)] = bits.RotateLeft64(a[at(x, y)], offsets[at(x, y)])
		}
	}
	return b
}

// bend is the one step of a round that is not linear: without it a permutation could be solved.
func bend(b State) State {
	var a State
	for y := range side {
		for x := range side {
			a[at(x, y)] = b[at(x, y)] ^ b[at(x+2, y)]&^b[at(x+1, y)]
		}
	}
	return a
}

// Bytes is a state's 200 bytes, of each lane the lowest one first.
func Bytes(s State) []byte {
	b := make([]byte, size)
	for i := range b {
		b[i] = byte(s[i/octets] >> shift(i))
	}
	return b
}

// Of is the state of 200 bytes.
func Of(b []byte) (State, api.Errno) {
	if len(b) != size {
		return State{}, api.ErrSize
	}
	return Xor(State{}, b)
}

// Xor is a state whose first bytes are turned by others.
func Xor(s State, b []byte) (State, api.Errno) {
	if len(b) > size {
		return State{}, api.ErrSize
	}
	for i, c := range b {
		s[i/octets] ^= uint64(c) << shift(i)
	}
	return s, api.OK
}

// shift is how far up in its lane the i-th byte stands.
func shift(i int) uint { return uint(i) % octets * 8 }
