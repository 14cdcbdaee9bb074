// Package pack is layer 1: numbers and texts as bytes, one behind the other, and as sectors. See shared/doc/01-pack.md.
package pack

import (
	"strings"

	"lockgate/api"
)

// What Two can count, and what a sector has room for behind such a count.
const (
	maxText = 1<<16 - 1
	maxFill = api.SectorSize - 2
)

// put is n as size bytes, the greatest first.
func put[N uint16 | uint32 | uint64](n N, size int) string {
	b := make([]byte, size)
	for i := range size {
		b[size-1-i] = byte(n)
		n >>= 8
	}
	return string(b)
}

// Two is n as 2 bytes.
func Two(n uint16) string { return put(n, 2) }

// Four is n as 4 bytes.
func Four(n uint32) string { return put(n, 4) }

// Eight is n as 8 bytes.
func Eight(n uint64) string { return put(n, 8) }

// Text is how many bytes s has, and s.
func Text(s string) (string, api.Errno) {
	if len(s) > maxText {
		return "", api.ErrSize
	}
	return Two(uint16(len(s))) + s, api.OK
}

// Fill is the sector of a text.
func Fill(s string) (string, api.Errno) {
	if len(s) > maxFill {
		return "", api.ErrSize
	}
	return Two(uint16(len(s))) + s + strings.Repeat("\x00", maxFill-len(s)), api.OK
}

// Open is the text whose sector this is.
func Open(sector string) (string, bool) {
	s := Read(sector).Text()
	// Filled anew it shows whether the size, the count and the bytes behind the text are right, all at once.
	again, e := Fill(s)
	if e != api.OK || again != sector {
		return "", false
	}
	return s, true
}
