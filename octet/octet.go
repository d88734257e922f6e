// Package octet is layer 1: integers and strings as bytes, and a checksum of 32 bits.
package octet

import "stopcock/api"

// widest is how many bytes the greatest integer has.
const widest = 8

// steps[i] is what four steps make of a register whose highest four bits are i and whose others are clear.
// The steps are linear, so that four of them can be taken at once.
var steps = [16]uint32{
	0x00000000, 0x04c11db7, 0x09823b6e, 0x0d4326d9,
	0x130476dc, 0x17c56b6b, 0x1a864db2, 0x1e475005,
	0x2608edb8, 0x22c9f00f, 0x2f8ad6d6, 0x2b4bcb61,
	0x350c9b64, 0x31cd86d3, 0x3c8ea00a, 0x384fbdbd,
}

// Num returns the encoding of an integer.
func Num(n uint64) []byte {
	width := 0
	for rest := n; rest != 0; rest >>= 8 {
		width++
	}
	b := make([]byte, 1+width)
	b[0] = byte(width)
	for i := width; i > 0; i-- {
		b[i] = byte(n)
		n >>= 8
	}
	return b
}

// ReadNum decodes the integer at the beginning of b, and says how many bytes it takes.
func ReadNum(b []byte) (uint64, int, api.Errno) {
	if len(b) == 0 {
		return 0, 0, api.ErrShort
	}
	width := int(b[0])
	if width > widest {
		return 0, 0, api.ErrForm
	}
	if len(b) < 1+width {
		return 0, 0, api.ErrShort
	}
	if width > 0 && b[1] == 0 {
		return 0, 0, api.ErrForm
	}
	var n uint64
	for _, x := range b[1 : 1+width] {
		n = n<<8 | uint64(x)
	}
	return n, 1 + width, api.OK
}

// Text returns the encoding of a string.
func Text(s string) []byte {
	return append(Num(uint64(len(s))), s...)
}

// ReadText decodes the string at the beginning of b, if it has at most most bytes, and says how many bytes it takes.
func ReadText(b []byte, most int) (string, int, api.Errno) {
	n, k, e := ReadNum(b)
	if e != api.OK {
		return "", 0, e
	}
	if most < 0 || n > uint64(most) {
		return "", 0, api.ErrLong
	}
	if n > uint64(len(b)-k) {
		return "", 0, api.ErrShort
	}
	end := k + int(n)
	return string(b[k:end]), end, api.OK
}

// Sum returns the checksum of b.
func Sum(b []byte) uint32 {
	sum := ^uint32(0)
	for _, x := range b {
		sum ^= uint32(x) << 24
		sum = sum<<4 ^ steps[sum>>28]
		sum = sum<<4 ^ steps[sum>>28]
	}
	return ^sum
}
