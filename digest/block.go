package digest

import (
	"math/bits"

	"bootjack/api"
)

const (
	stateSize = 8  // words A to H
	blockSize = 64 // bytes that are mixed in at once
	rounds    = 64 // of each block
	countSize = 8  // bytes of the number of bits, at the end of the last block
)

// start: the first 32 bits of the fractions of the square roots of the first eight primes.
var start = [stateSize]uint32{
	0x6a09e667, 0xbb67ae85, 0x3c6ef372, 0xa54ff53a,
	0x510e527f, 0x9b05688c, 0x1f83d9ab, 0x5be0cd19,
}

// roots: the first 32 bits of the fractions of the cube roots of the first 64 primes.
var roots = [rounds]uint32{
	0x428a2f98, 0x71374491, 0xb5c0fbcf, 0xe9b5dba5, 0x3956c25b, 0x59f111f1, 0x923f82a4, 0xab1c5ed5,
	0xd807aa98, 0x12835b01, 0x243185be, 0x550c7dc3, 0x72be5d74, 0x80deb1fe, 0x9bdc06a7, 0xc19bf174,
	0xe49b69c1, 0xefbe4786, 0x0fc19dc6, 0x240ca1cc, 0x2de92c6f, 0x4a7484aa, 0x5cb0a9dc, 0x76f988da,
	0x983e5152, 0xa831c66d, 0xb00327c8, 0xbf597fc7, 0xc6e00bf3, 0xd5a79147, 0x06ca6351, 0x14292967,
	0x27b70a85, 0x2e1b2138, 0x4d2c6dfc, 0x53380d13, 0x650a7354, 0x766a0abb, 0x81c2c92e, 0x92722c85,
	0xa2bfe8a1, 0xa81a664b, 0xc24b8b70, 0xc76c51a3, 0xd192e819, 0xd6990624, 0xf40e3585, 0x106aa070,
	0x19a4c116, 0x1e376c08, 0x2748774c, 0x34b0bcb5, 0x391c0cb3, 0x4ed8aa4a, 0x5b9cca4f, 0x682e6ff3,
	0x748f82ee, 0x78a5636f, 0x84c87814, 0x8cc70208, 0x90befffa, 0xa4506ceb, 0xbef9a3f7, 0xc67178f2,
}

// mix takes a whole block in.
func mix(state [stateSize]uint32, block [blockSize]byte) [stateSize]uint32 {
	a, b, c, d := state[0], state[1], state[2], state[3]
	e, f, g, h := state[4], state[5], state[6], state[7]
	for t, word := range spread(block) {
		choice := e&f ^ ^e&g
		majority := a&b ^ a&c ^ b&c
		t1 := h + (turn(e, 6) ^ turn(e, 11) ^ turn(e, 25)) + choice + roots[t] + word
		t2 := (turn(a, 2) ^ turn(a, 13) ^ turn(a, 22)) + majority
		h, g, f, e, d, c, b, a = g, f, e, d+t1, c, b, a, t1+t2
	}
	for i, word := range [stateSize]uint32{a, b, c, d, e, f, g, h} {
		state[i] += word
	}
	return state
}

// spread makes a word for each round of a block's sixteen.
func spread(block [blockSize]byte) [rounds]uint32 {
	var w [rounds]uint32
	for i, c := range block {
		w[i/4] = w[i/4]<<8 | uint32(c)
	}
	for t := 16; t < rounds; t++ {
		x, y := w[t-15], w[t-2]
		s0 := turn(x, 7) ^ turn(x, 18) ^ x>>3
		s1 := turn(y, 17) ^ turn(y, 19) ^ y>>10
		w[t] = w[t-16] + s0 + w[t-7] + s1
	}
	return w
}

// turn: to the right.
func turn(x uint32, by int) uint32 {
	return bits.RotateLeft32(x, -by)
}

// ending: what stands behind that many bytes, up to the end of a block.
func ending(length uint64) []byte {
	noughts := (2*blockSize - 1 - countSize - length%blockSize) % blockSize // a block more, since the difference must not wrap round
	b := make([]byte, 1+noughts, 1+noughts+countSize)
	b[0] = 0x80
	return append(b, bytesOf(length*8)...)
}

// bytesOf: the highest first.
func bytesOf(count uint64) []byte {
	b := make([]byte, countSize)
	for i := range b {
		b[i] = byte(count >> (8 * (countSize - 1 - i)))
	}
	return b
}

// hashOf: the words' bytes, the highest first.
func hashOf(state [stateSize]uint32) api.Hash {
	var h api.Hash
	for i := range h {
		h[i] = byte(state[i/4] >> (8 * (3 - i%4)))
	}
	return h
}
