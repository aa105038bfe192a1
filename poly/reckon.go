package poly

// A polynomial of bits is a number here, turned round as the CRC's bits are:
// the highest bit is the one without x, the lowest is x^31.

// divisor is the CRC's polynomial, without its x^32.
const divisor = 0xEDB88320

// one is the polynomial 1.
const one = 1 << 31

// oneByte is x^8: what a rest is taken times when a byte comes behind.
const oneByte = one >> 8

// rests has what the lowest four bits come to when they are taken times x^4.
var rests = [16]uint32{
	0x00000000, 0x1db71064, 0x3b6e20c8, 0x26d930ac,
	0x76dc4190, 0x6b6b51f4, 0x4db26158, 0x5005713c,
	0xedb88320, 0xf00f9344, 0xd6d6a3e8, 0xcb61b38c,
	0x9b64c2b0, 0x86d3d2d4, 0xa00ae278, 0xbdbdf21c,
}

// next takes a polynomial times x, and tells the rest.
func next(p uint32) uint32 {
	if p&1 == 0 {
		return p >> 1
	}
	return p>>1 ^ divisor
}

// times takes two polynomials times each other, and tells the rest.
func times(p, q uint32) uint32 {
	var all uint32
	for ; p != 0; p <<= 1 {
		if p&one != 0 {
			all ^= q
		}
		q = next(q)
	}
	return all
}

// behind tells what a rest is taken times when n bytes come behind: by
// squares, so that it ends soon however great n is.
func behind(n int64) uint32 {
	all, square := uint32(one), uint32(oneByte)
	for ; n > 0; n >>= 1 {
		if n&1 == 1 {
			all = times(all, square)
		}
		square = times(square, square)
	}
	return all
}
