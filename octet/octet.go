// Package octet is layer 1: big-endian integers in byte strings, and substrings, at byte offsets.
package octet

import (
	"derrick/api"
)

// number lists the kinds of integers that are encoded.
type number interface {
	uint8 | uint16 | uint32
}

// Put16 encodes a number in two bytes, the most significant byte first.
func Put16(n uint16) string {
	return put(n, 2)
}

// Put32 encodes a number in four bytes, the most significant byte first.
func Put32(n uint32) string {
	return put(n, 4)
}

// U8 decodes the number of the byte at an offset, and returns the offset after it.
func U8(s string, at int) (uint8, int, api.Errno) {
	return take[uint8](s, at, 1)
}

// U16 decodes the number of the two bytes from an offset on, and returns the offset after them.
func U16(s string, at int) (uint16, int, api.Errno) {
	return take[uint16](s, at, 2)
}

// U32 decodes the number of the four bytes from an offset on, and returns the offset after them.
func U32(s string, at int) (uint32, int, api.Errno) {
	return take[uint32](s, at, 4)
}

// Some returns so many bytes from an offset on, and the offset after them.
func Some(s string, at, many int) (string, int, api.Errno) {
	// A difference, as the sum of at and many may wrap round; it is negative if at is behind the end.
	if at < 0 || many < 0 || many > len(s)-at {
		return "", 0, api.ErrForm
	}
	return s[at : at+many], at + many, api.OK
}

func put[N number](n N, size int) string {
	b := make([]byte, size)
	for i := range size {
		b[i] = byte(n >> shift(i, size))
	}
	return string(b)
}

func take[N number](s string, at, size int) (N, int, api.Errno) {
	b, next, err := Some(s, at, size)
	if err != api.OK {
		return 0, 0, err
	}
	return assemble[N](b), next, api.OK
}

func assemble[N number](b string) N {
	var n N
	for i := range len(b) {
		n |= N(b[i]) << shift(i, len(b))
	}
	return n
}

// shift is the number of bits of a number of size bytes that come after byte i of it.
func shift(i, size int) int {
	return 8 * (size - 1 - i)
}
