// Package bits: numbers as bytes: see doc/01-bits.md.
package bits

import (
	"strings"

	"foliant/api"
)

// maxSize is how many bytes the greatest number has.
const maxSize = 8

// Put: n as size bytes, the lowest first.
func Put(n, size int) (string, api.Errno) {
	if !rightSize(size) {
		return "", api.ErrRange
	}
	rest := uint64(n)
	b := make([]byte, size)
	for i := range b {
		b[i] = byte(rest)
		rest >>= 8
	}
	return string(b), api.OK
}

// Get: the number of which s is the bytes, the lowest first.
func Get(s string) (int, api.Errno) {
	if !rightSize(len(s)) {
		return 0, api.ErrRange
	}
	var n uint64
	for i := len(s) - 1; i >= 0; i-- {
		n = n<<8 | uint64(s[i])
	}
	return int(n), api.OK
}

// Part: n bytes of s, from off on.
func Part(s string, off, n int) (string, api.Errno) {
	if !inside(len(s), off, n) {
		return "", api.ErrRange
	}
	// A piece of s itself would not be new memory.
	return strings.Clone(s[off : off+n]), api.OK
}

// Lay: s, in which the bytes of t stand from off on.
func Lay(s string, off int, t string) (string, api.Errno) {
	if !inside(len(s), off, len(t)) {
		return "", api.ErrRange
	}
	b := []byte(s)
	copy(b[off:], t)
	return string(b), api.OK
}

func rightSize(size int) bool { return size >= 1 && size <= maxSize }

// inside takes n from the length, as off + n might go round.
func inside(length, off, n int) bool {
	return off >= 0 && n >= 0 && off <= length && n <= length-off
}
