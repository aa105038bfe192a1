package sum

import "math/bits"

// blockSize is how many bytes SHA-256 takes at a time.
const blockSize = 64

// lengthSize is how many bytes at the end tell how long it all was.
const lengthSize = 8

// first is the state ahead of the first block (FIPS 180-4, 5.3.3).
var first = [8]uint32{
	0x6a09e667, 0xbb67ae85, 0x3c6ef372, 0xa54ff53a,
	0x510e527f, 0x9b05688c, 0x1f83d9ab, 0x5be0cd19,
}

// rounds has a constant for each round (FIPS 180-4, 4.2.2).
var rounds = [64]uint32{
	0x428a2f98, 0x71374491, 0xb5c0fbcf, 0xe9b5dba5,
	0x3956c25b, 0x59f111f1, 0x923f82a4, 0xab1c5ed5,
	0xd807aa98, 0x12835b01, 0x243185be, 0x550c7dc3,
	0x72be5d74, 0x80deb1fe, 0x9bdc06a7, 0xc19bf174,
	0xe49b69c1, 0xefbe4786, 0x0fc19dc6, 0x240ca1cc,
	0x2de92c6f, 0x4a7484aa, 0x5cb0a9dc, 0x76f988da,
	0x983e5152, 0xa831c66d, 0xb00327c8, 0xbf597fc7,
	0xc6e00bf3, 0xd5a79147, 0x06ca6351, 0x14292967,
	0x27b70a85, 0x2e1b2138, 0x4d2c6dfc, 0x53380d13,
	0x650a7354, 0x766a0abb, 0x81c2c92e, 0x92722c85,
	0xa2bfe8a1, 0xa81a664b, 0xc24b8b70, 0xc76c51a3,
	0xd192e819, 0xd6990624, 0xf40e3585, 0x106aa070,
	0x19a4c116, 0x1e376c08, 0x2748774c, 0x34b0bcb5,
	0x391c0cb3, 0x4ed8aa4a, 0x5b9cca4f, 0x682e6ff3,
	0x748f82ee, 0x78a5636f, 0x84c87814, 0x8cc70208,
	0x90befffa, 0xa4506ceb, 0xbef9a3f7, 0xc67178f2,
}

// hash is SHA-256 under way. Bytes that do not fill a block yet are held
// back, so that it makes no odds how the whole is parted.
type hash struct {
	state [8]uint32
	block [blockSize]byte
	held  int
	total uint64
}

// begin is ahead of all bytes.
func begin() hash { return hash{state: first} }

// add takes bytes in.
func (h *hash) add(p []byte) {
	h.total += uint64(len(p))
	if h.held > 0 {
		n := copy(h.block[h.held:], p)
		h.held += n
		p = p[n:]
		if h.held < blockSize {
			return
		}
		h.state = mix(h.state, h.block[:])
	}
	for len(p) >= blockSize {
		h.state = mix(h.state, p[:blockSize])
		p = p[blockSize:]
	}
	h.held = copy(h.block[:], p)
}

// end tells the sum of all that was taken in.
func (h *hash) end() Sum {
	var tail [2 * blockSize]byte
	size := blockSize
	// The byte that ends the text must stand ahead of the length.
	if h.held+1+lengthSize > blockSize {
		size = 2 * blockSize
	}
	copy(tail[:], h.block[:h.held])
	tail[h.held] = 0x80
	count := 8 * h.total
	for i := range lengthSize {
		tail[size-1-i] = byte(count >> (8 * i))
	}
	for at := 0; at < size; at += blockSize {
		h.state = mix(h.state, tail[at:at+blockSize])
	}
	return h.tell()
}

// tell writes the state, the highest byte of each word first.
func (h *hash) tell() Sum {
	var s Sum
	for i, v := range h.state {
		s[4*i] = byte(v >> 24)
		s[4*i+1] = byte(v >> 16)
		s[4*i+2] = byte(v >> 8)
		s[4*i+3] = byte(v)
	}
	return s
}

// mix works one block into the state (FIPS 180-4, 6.2.2).
func mix(state [8]uint32, block []byte) [8]uint32 {
	w := spread(block)
	a, b, c, d := state[0], state[1], state[2], state[3]
	e, f, g, h := state[4], state[5], state[6], state[7]
	for i := range w {
		choice := e&f ^ ^e&g
		most := a&b ^ a&c ^ b&c
		t := h + turn(e, 6, 11, 25) + choice + rounds[i] + w[i]
		u := turn(a, 2, 13, 22) + most
		a, b, c, d, e, f, g, h = t+u, a, b, c, d+t, e, f, g
	}
	state[0] += a
	state[1] += b
	state[2] += c
	state[3] += d
	state[4] += e
	state[5] += f
	state[6] += g
	state[7] += h
	return state
}

// spread makes a word for each round of a block's sixteen.
func spread(block []byte) [64]uint32 {
	var w [64]uint32
	for i := range 16 {
		p := block[4*i : 4*i+4]
		w[i] = uint32(p[0])<<24 | uint32(p[1])<<16 | uint32(p[2])<<8 | uint32(p[3])
	}
	for i := 16; i < len(w); i++ {
		x, y := w[i-15], w[i-2]
		low := bits.RotateLeft32(x, -7) ^ bits.RotateLeft32(x, -18) ^ x>>3
		high := bits.RotateLeft32(y, -17) ^ bits.RotateLeft32(y, -19) ^ y>>10
		w[i] = w[i-16] + low + w[i-7] + high
	}
	return w
}

// turn puts three turns of x to the right together.
func turn(x uint32, i, j, k int) uint32 {
	return bits.RotateLeft32(x, -i) ^ bits.RotateLeft32(x, -j) ^ bits.RotateLeft32(x, -k)
}
