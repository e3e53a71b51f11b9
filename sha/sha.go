// Package sha is layer 1: sums of bytes. See shared/doc/01-sha.md.
package sha

import (
	"math/bits"
	"slices"

	"lazaret/api"
)

const (
	chunk     = 64 // bytes that a step takes
	rounds    = 64 // numbers that it makes of them, each mixed in once
	wordSize  = 4  // bytes of a number
	countSize = 8  // bytes of the count of bits that ends padded bytes
)

// stepNumbers: the first 32 bits behind the point of the cube roots of the first 64 primes.
var stepNumbers = [rounds]uint32{
	0x428a2f98, 0x71374491, 0xb5c0fbcf, 0xe9b5dba5, 0x3956c25b, 0x59f111f1, 0x923f82a4, 0xab1c5ed5,
	0xd807aa98, 0x12835b01, 0x243185be, 0x550c7dc3, 0x72be5d74, 0x80deb1fe, 0x9bdc06a7, 0xc19bf174,
	0xe49b69c1, 0xefbe4786, 0x0fc19dc6, 0x240ca1cc, 0x2de92c6f, 0x4a7484aa, 0x5cb0a9dc, 0x76f988da,
	0x983e5152, 0xa831c66d, 0xb00327c8, 0xbf597fc7, 0xc6e00bf3, 0xd5a79147, 0x06ca6351, 0x14292967,
	0x27b70a85, 0x2e1b2138, 0x4d2c6dfc, 0x53380d13, 0x650a7354, 0x766a0abb, 0x81c2c92e, 0x92722c85,
	0xa2bfe8a1, 0xa81a664b, 0xc24b8b70, 0xc76c51a3, 0xd192e819, 0xd6990624, 0xf40e3585, 0x106aa070,
	0x19a4c116, 0x1e376c08, 0x2748774c, 0x34b0bcb5, 0x391c0cb3, 0x4ed8aa4a, 0x5b9cca4f, 0x682e6ff3,
	0x748f82ee, 0x78a5636f, 0x84c87814, 0x8cc70208, 0x90befffa, 0xa4506ceb, 0xbef9a3f7, 0xc67178f2,
}

// Pad: padded bytes.
func Pad(b []byte) []byte { return slices.Concat(b, padding(len(b))) }

// Step: over 64 bytes.
func Step(h [8]uint32, block [64]byte) [8]uint32 {
	sums := churn(h, spread(block))
	for i := range sums {
		sums[i] += h[i]
	}
	return sums
}

// Sum: of bytes.
func Sum(b []byte) api.Sum {
	// Only the end is copied, so that a sum of many bytes needs no second room for them.
	end := len(b) - len(b)%chunk
	h := steps(squareRoots(), b[:end])
	h = steps(h, slices.Concat(b[end:], padding(len(b))))
	var s api.Sum
	for i, x := range h {
		putWord(s[wordSize*i:], x)
	}
	return s
}

// padding: what stands behind n bytes when they are padded.
func padding(n int) []byte {
	const marked = chunk - countSize
	zeros := (marked - 1 + chunk - n%chunk) % chunk
	p := make([]byte, 1+zeros+countSize)
	p[0] = 0x80
	count := 8 * uint64(n)
	putWord(p[1+zeros:], uint32(count>>32))
	putWord(p[1+zeros+wordSize:], uint32(count))
	return p
}

// squareRoots: the first 32 bits behind the point of those of the first eight primes.
func squareRoots() [8]uint32 {
	return [8]uint32{
		0x6a09e667, 0xbb67ae85, 0x3c6ef372, 0xa54ff53a,
		0x510e527f, 0x9b05688c, 0x1f83d9ab, 0x5be0cd19,
	}
}

// steps: those over b, whose length is a multiple of chunk.
func steps(h [8]uint32, b []byte) [8]uint32 {
	for i := range len(b) / chunk {
		h = Step(h, [chunk]byte(b[chunk*i:]))
	}
	return h
}

// spread: the numbers that a step makes of its bytes.
func spread(block [chunk]byte) [rounds]uint32 {
	var w [rounds]uint32
	for t := range chunk / wordSize {
		w[t] = takeWord(block[wordSize*t:])
	}
	for t := chunk / wordSize; t < rounds; t++ {
		w[t] = mixShifted(w[t-2], 17, 19, 10) + w[t-7] + mixShifted(w[t-15], 7, 18, 3) + w[t-16]
	}
	return w
}

// churn: what a step makes of its eight numbers, without these added.
func churn(start [8]uint32, w [rounds]uint32) [8]uint32 {
	a, b, c, d := start[0], start[1], start[2], start[3]
	e, f, g, h := start[4], start[5], start[6], start[7]
	for t := range rounds {
		p := h + mix(e, 6, 11, 25) + (e&f ^ ^e&g) + stepNumbers[t] + w[t]
		q := mix(a, 2, 13, 22) + (a&b ^ a&c ^ b&c)
		a, b, c, d, e, f, g, h = p+q, a, b, c, d+p, e, f, g
	}
	return [8]uint32{a, b, c, d, e, f, g, h}
}

// mix: x rotated to the right by each of i, j and k, put together.
func mix(x uint32, i, j, k int) uint32 {
	return bits.RotateLeft32(x, -i) ^ bits.RotateLeft32(x, -j) ^ bits.RotateLeft32(x, -k)
}

// mixShifted: as mix, but shifted by k.
func mixShifted(x uint32, i, j, k int) uint32 {
	return bits.RotateLeft32(x, -i) ^ bits.RotateLeft32(x, -j) ^ x>>k
}

// putWord: x at the beginning of b, the greatest byte first.
func putWord(b []byte, x uint32) {
	for i := range wordSize {
		b[i] = byte(x >> (8 * (wordSize - 1 - i)))
	}
}

// takeWord: the number at the beginning of b.
func takeWord(b []byte) uint32 {
	var x uint32
	for i := range wordSize {
		x = x<<8 | uint32(b[i])
	}
	return x
}
