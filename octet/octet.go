// Package octet: numbers and texts in bytes; a sum: see doc/01-octet.md.
package octet

import (
	"tessera/api"
)

const (
	numberBytes = 4
	polynomial  = 0xedb88320 // of IEEE 802.3, its lowest power in the highest bit
)

// Put answers b and, behind it, n's four bytes, the highest first.
func Put(b []byte, n uint32) []byte {
	// Cut to its length, b has no room left: append takes new memory and leaves the caller's spare room alone.
	return append(b[:len(b):len(b)], byte(n>>24), byte(n>>16), byte(n>>8), byte(n))
}

// Get answers the number that stands in b from at on, and the place behind it.
func Get(b []byte, at int) (uint32, int, api.Errno) {
	if at < 0 || at > len(b) {
		return 0, 0, api.ErrArg
	}
	// Asked by what is left, since at plus four could run over.
	if len(b)-at < numberBytes {
		return 0, 0, api.ErrShort
	}
	d := b[at : at+numberBytes]
	n := uint32(d[0])<<24 | uint32(d[1])<<16 | uint32(d[2])<<8 | uint32(d[3])
	return n, at + numberBytes, api.OK
}

// PutText answers b and, behind it, the number of s's bytes and these.
func PutText(b []byte, s string) []byte {
	// What Put answers is memory of this call alone: its room may be written.
	return append(Put(b, uint32(len(s))), s...)
}

// GetText answers the text of at most most bytes that stands in b from at on, and the place behind it.
func GetText(b []byte, at, most int) (string, int, api.Errno) {
	n, from, why := Get(b, at)
	if why != api.OK {
		return "", 0, why
	}
	// Held against each other in 64 bits: an int of 32 has no room for every length.
	if most < 0 || uint64(n) > uint64(most) {
		return "", 0, api.ErrLong
	}
	if uint64(n) > uint64(len(b)-from) {
		return "", 0, api.ErrShort
	}
	to := from + int(n)
	return string(b[from:to]), to, api.OK
}

// Sum answers the CRC-32 of b.
func Sum(b []byte) uint32 {
	table := halfSteps()
	register := ^uint32(0)
	for _, c := range b {
		register ^= uint32(c)
		register = register>>4 ^ table[register&15]
		register = register>>4 ^ table[register&15]
	}
	return ^register
}

// halfSteps answers, for each four bits that are shifted out of the register, what is xored into it.
// It goes by half bytes, since a table of 16 is soon made, in each call anew, and one of 256 is not.
func halfSteps() [16]uint32 {
	var table [16]uint32
	for i := range table {
		n := uint32(i)
		for range 4 {
			out := n & 1
			n >>= 1
			if out == 1 {
				n ^= polynomial
			}
		}
		table[i] = n
	}
	return table
}
