// Package crc: sums, numbers in bytes: see doc/01-crc.md.
package crc

import (
	"hornbook/api"
)

const (
	numberBytes = 8 // no number has more
	lengthBytes = 2 // tell the length of a text
	mostText    = 1<<(8*lengthBytes) - 1
)

// unsigned: the types whose numbers can be laid in bytes.
type unsigned interface {
	~uint | ~uint8 | ~uint16 | ~uint32 | ~uint64 | ~uintptr
}

// fourShifts: what four shifts make of a register that holds the index. Two
// look-ups stand for a byte's eight shifts, since whole files are summed.
var fourShifts = [16]uint32{
	0x00000000, 0x1DB71064, 0x3B6E20C8, 0x26D930AC,
	0x76DC4190, 0x6B6B51F4, 0x4DB26158, 0x5005713C,
	0xEDB88320, 0xF00F9344, 0xD6D6A3E8, 0xCB61B38C,
	0x9B64C2B0, 0x86D3D2D4, 0xA00AE278, 0xBDBDF21C,
}

// Sum tells the CRC-32 of b.
func Sum(b []byte) uint32 { return More(0, b) }

// More tells, of the sum of some bytes, that of these and b behind them.
func More(sum uint32, b []byte) uint32 {
	register := ^sum // a sum is the register with all its bits turned
	for _, c := range b {
		register ^= uint32(c)
		register = register>>4 ^ fourShifts[register&15]
		register = register>>4 ^ fourShifts[register&15]
	}
	return ^register
}

// Put tells b with the lowest bytes of n behind it, the lowest first.
func Put(b []byte, n uint64, bytes int) []byte {
	width := heldWidth(bytes)
	return appendNumber(freshCopy(b, width), n, width)
}

// Get tells the number that b begins with, and what is behind it.
func Get(b []byte, bytes int) (uint64, []byte, api.Errno) {
	width := heldWidth(bytes)
	if len(b) < width {
		return 0, freshCopy(b, 0), api.ErrShort
	}
	return readNumber[uint64](b[:width]), freshCopy(b[width:], 0), api.OK
}

// Text tells b with the length of s and s behind it; of an s that is too long
// for its length to be told, only what fits.
func Text(b []byte, s string) []byte {
	s = s[:min(len(s), mostText)]
	out := freshCopy(b, lengthBytes+len(s))
	out = appendNumber(out, uint16(len(s)), lengthBytes)
	return append(out, s...)
}

// GetText tells the text that b begins with, and what is behind it.
func GetText(b []byte, most int) (string, []byte, api.Errno) {
	if len(b) < lengthBytes {
		return "", freshCopy(b, 0), api.ErrShort
	}
	length, behind := int(readNumber[uint16](b[:lengthBytes])), b[lengthBytes:]
	if length > most {
		return "", freshCopy(b, 0), api.ErrLong
	}
	if length > len(behind) {
		return "", freshCopy(b, 0), api.ErrShort
	}
	return string(behind[:length]), freshCopy(behind[length:], 0), api.OK
}

// heldWidth holds a number of bytes within what a number can have.
func heldWidth(bytes int) int { return min(max(bytes, 0), numberBytes) }

// freshCopy copies b into memory of its own, with room behind it: a caller's
// spare room is never written to, and no answer shares memory with another.
func freshCopy(b []byte, room int) []byte {
	out := make([]byte, len(b), len(b)+room)
	copy(out, b)
	return out
}

// appendNumber lays width bytes of n behind out, the lowest first.
func appendNumber[N unsigned](out []byte, n N, width int) []byte {
	for i := range width {
		out = append(out, byte(n>>(8*i)))
	}
	return out
}

// readNumber reads the number whose bytes, the lowest first, are all of b.
func readNumber[N unsigned](b []byte) N {
	var n N
	for i, c := range b {
		n |= N(c) << (8 * i)
	}
	return n
}
