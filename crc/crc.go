// Package crc is layer 1, CRC-32 checksums: see shared/doc/01-crc.md.
package crc

// polynomial and allOnes are what registers are combined with.
const (
	polynomial uint32 = 0xedb88320
	allOnes    uint32 = 0xffffffff
)

// zeroByte stands for a byte 0. Registers are polynomials with the lowest power in the highest bit,
// and to shift one is to multiply it by x modulo the checksum's polynomial: to process a byte 0 is to
// multiply by the eighth power of x.
const zeroByte uint32 = 1 << (31 - 8)

// sealSize is how many bytes a seal has.
const sealSize = 4

// halfBytes holds the registers that four shifts make of 0 to 15.
var halfBytes = [16]uint32{
	0x00000000, 0x1db71064, 0x3b6e20c8, 0x26d930ac,
	0x76dc4190, 0x6b6b51f4, 0x4db26158, 0x5005713c,
	0xedb88320, 0xf00f9344, 0xd6d6a3e8, 0xcb61b38c,
	0x9b64c2b0, 0x86d3d2d4, 0xa00ae278, 0xbdbdf21c,
}

// Sum is the checksum of the parts, one behind the other.
func Sum(parts ...string) uint32 {
	return process(allOnes, parts...) ^ allOnes
}

// Extend is the checksum of a string that has the checksum sum, followed by s.
func Extend(sum uint32, s string) uint32 {
	return process(sum^allOnes, s) ^ allOnes
}

// Join is the checksum of two strings, one behind the other: a and b are theirs, n is the length of
// the second one.
func Join(a, b uint32, n int) uint32 {
	// The powers are squared, as n may be too great for a loop over the bytes to end in time.
	power := zeroByte
	for ; n > 0; n >>= 1 {
		if n&1 == 1 {
			a = multiply(a, power)
		}
		power = multiply(power, power)
	}
	return a ^ b
}

// Seal is s with its checksum behind it.
func Seal(s string) string {
	return s + seal(s)
}

// Open is what was sealed, and whether the seal is right.
func Open(s string) (string, bool) {
	if len(s) < sealSize {
		return "", false
	}
	end := len(s) - sealSize
	if s[end:] != seal(s[:end]) {
		return "", false
	}
	return s[:end], true
}

// process is the register after all bytes of the parts.
func process(register uint32, parts ...string) uint32 {
	next := func(b byte) {
		register ^= uint32(b)
		for range 2 {
			register = register>>4 ^ halfBytes[register&15]
		}
	}
	for _, part := range parts {
		for i := range len(part) {
			next(part[i])
		}
	}
	return register
}

// multiply is the product of two registers as polynomials, modulo the checksum's.
func multiply(a, b uint32) uint32 {
	product := uint32(0)
	for bit := uint32(1 << 31); bit > 0; bit >>= 1 {
		if a&bit != 0 {
			product ^= b
		}
		b = shift(b)
	}
	return product
}

// shift is the register after one of the eight shifts of a byte.
func shift(register uint32) uint32 {
	if register&1 == 1 {
		return register>>1 ^ polynomial
	}
	return register >> 1
}

// seal is the checksum of s as bytes, the lowest first.
func seal(s string) string {
	sum := Sum(s)
	return string([]byte{byte(sum), byte(sum >> 8), byte(sum >> 16), byte(sum >> 24)})
}
