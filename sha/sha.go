// Package sha is layer 1: see shared/doc/01-sha.md.
package sha

import (
	"bytes"
	"math/bits"
	"slices"
	"strings"

	"cartage/api"
)

const (
	blockSize  = 64 // bytes of a block
	lengthSize = 8  // bytes of the length that ends the last block
	lengthAt   = blockSize - lengthSize
	roundCount = 64
	figures    = "0123456789abcdef"
)

// The fractions of the square roots of the first 8 primes, 32 bits each (FIPS 180-4, 5.3.3).
var start = [8]uint32{
	0x6a09e667, 0xbb67ae85, 0x3c6ef372, 0xa54ff53a, 0x510e527f, 0x9b05688c, 0x1f83d9ab, 0x5be0cd19,
}

// The fractions of the cube roots of the first 64 primes, 32 bits each (FIPS 180-4, 4.2.2).
var rounds = [roundCount]uint32{
	0x428a2f98, 0x71374491, 0xb5c0fbcf, 0xe9b5dba5, 0x3956c25b, 0x59f111f1, 0x923f82a4, 0xab1c5ed5,
	0xd807aa98, 0x12835b01, 0x243185be, 0x550c7dc3, 0x72be5d74, 0x80deb1fe, 0x9bdc06a7, 0xc19bf174,
	0xe49b69c1, 0xefbe4786, 0x0fc19dc6, 0x240ca1cc, 0x2de92c6f, 0x4a7484aa, 0x5cb0a9dc, 0x76f988da,
	0x983e5152, 0xa831c66d, 0xb00327c8, 0xbf597fc7, 0xc6e00bf3, 0xd5a79147, 0x06ca6351, 0x14292967,
	0x27b70a85, 0x2e1b2138, 0x4d2c6dfc, 0x53380d13, 0x650a7354, 0x766a0abb, 0x81c2c92e, 0x92722c85,
	0xa2bfe8a1, 0xa81a664b, 0xc24b8b70, 0xc76c51a3, 0xd192e819, 0xd6990624, 0xf40e3585, 0x106aa070,
	0x19a4c116, 0x1e376c08, 0x2748774c, 0x34b0bcb5, 0x391c0cb3, 0x4ed8aa4a, 0x5b9cca4f, 0x682e6ff3,
	0x748f82ee, 0x78a5636f, 0x84c87814, 0x8cc70208, 0x90befffa, 0xa4506ceb, 0xbef9a3f7, 0xc67178f2,
}

// message is what has been read of a message: the words behind its whole blocks, and the block that isn't whole yet.
type message struct {
	words  [8]uint32
	block  [blockSize]byte
	filled int
	length uint64
}

// Sum is the digest of parts.
func Sum(parts ...[]byte) api.Oid {
	m := message{words: start}
	for _, part := range parts {
		m.add(part)
	}
	return m.end()
}

func (m *message) add(part []byte) {
	m.length += uint64(len(part))
	for len(part) > 0 {
		n := copy(m.block[m.filled:], part)
		part = part[n:]
		m.filled += n
		if m.filled == blockSize {
			m.words = mix(m.words, spread(m.block))
			m.filled = 0
		}
	}
}

func (m *message) end() api.Oid {
	length := 8 * m.length // in bits, taken before the padding counts too
	m.add([]byte{128})
	for m.filled != lengthAt {
		m.add([]byte{0})
	}
	for i := range lengthSize {
		m.block[lengthAt+i] = byte(length >> (8 * (lengthSize - 1 - i)))
	}
	return join(mix(m.words, spread(m.block)))
}

// spread makes the 64 words of the rounds from a block (FIPS 180-4, 6.2.2, step 1).
func spread(block [blockSize]byte) [roundCount]uint32 {
	var w [roundCount]uint32
	for i := range 16 {
		b := block[4*i : 4*i+4]
		w[i] = uint32(b[0])<<24 | uint32(b[1])<<16 | uint32(b[2])<<8 | uint32(b[3])
	}
	for i := 16; i < len(w); i++ {
		p, q := w[i-15], w[i-2]
		low := bits.RotateLeft32(p, -7) ^ bits.RotateLeft32(p, -18) ^ p>>3
		high := bits.RotateLeft32(q, -17) ^ bits.RotateLeft32(q, -19) ^ q>>10
		w[i] = w[i-16] + low + w[i-7] + high
	}
	return w
}

// mix changes the eight words by a block (FIPS 180-4, 6.2.2, steps 2 to 4).
func mix(words [8]uint32, w [roundCount]uint32) [8]uint32 {
	a, b, c, d, e, f, g, h := words[0], words[1], words[2], words[3], words[4], words[5], words[6], words[7]
	for i := range w {
		high := bits.RotateLeft32(e, -6) ^ bits.RotateLeft32(e, -11) ^ bits.RotateLeft32(e, -25)
		choice := e&f ^ ^e&g
		one := h + high + choice + rounds[i] + w[i]
		low := bits.RotateLeft32(a, -2) ^ bits.RotateLeft32(a, -13) ^ bits.RotateLeft32(a, -22)
		most := a&b ^ a&c ^ b&c
		a, b, c, d, e, f, g, h = one+low+most, a, b, c, d+one, e, f, g
	}
	return [8]uint32{
		words[0] + a, words[1] + b, words[2] + c, words[3] + d,
		words[4] + e, words[5] + f, words[6] + g, words[7] + h,
	}
}

func join(words [8]uint32) api.Oid {
	var o api.Oid
	for i := range o {
		o[i] = byte(words[i/4] >> (24 - 8*(i%4)))
	}
	return o
}

// Hex is a digest's figures.
func Hex(o api.Oid) string {
	var s [2 * len(o)]byte
	for i, b := range o {
		s[2*i] = figures[b>>4]
		s[2*i+1] = figures[b&15]
	}
	return string(s[:])
}

// Unhex is the digest of figures.
func Unhex(s string) (api.Oid, error) {
	var o api.Oid
	if len(s) != 2*len(o) {
		return api.Oid{}, api.ErrForm
	}
	for i := range o {
		high := strings.IndexByte(figures, s[2*i])
		low := strings.IndexByte(figures, s[2*i+1])
		if high < 0 || low < 0 {
			return api.Oid{}, api.ErrForm
		}
		o[i] = byte(high<<4 | low)
	}
	return o, nil
}

// Less tells whether one comes ahead of another one.
func Less(a, b api.Oid) bool { return compare(a, b) < 0 }

func compare(a, b api.Oid) int { return bytes.Compare(a[:], b[:]) }

// Sort is digests rising, each once.
func Sort(list []api.Oid) []api.Oid {
	rising := make([]api.Oid, len(list))
	copy(rising, list)
	slices.SortFunc(rising, compare)
	return slices.Compact(rising)
}

// Short is a digest's first bytes.
func Short(o api.Oid) uint64 {
	var n uint64
	for _, b := range o[:8] {
		n = n<<8 | uint64(b)
	}
	return n
}
