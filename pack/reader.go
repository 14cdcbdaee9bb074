package pack

import (
	"strings"

	"lockgate/api"
)

// Reader reads numbers and texts, one behind the other. A broken one has no rest.
type Reader struct {
	rest   string
	broken bool
}

// Read is a reader at the beginning of s.
func Read(s string) *Reader { return &Reader{rest: s} }

// fail breaks the reader. Its rest goes, so that all that is read from then on fails, too.
func (r *Reader) fail() {
	if r != nil {
		r.rest, r.broken = "", true
	}
}

// take is the next size bytes; a reader that has fewer is broken.
func (r *Reader) take(size int) string {
	if r == nil || len(r.rest) < size {
		r.fail()
		return ""
	}
	part := r.rest[:size]
	r.rest = r.rest[size:]
	return part
}

// number is what the next size bytes say; 0, if take tells none.
func number(take func(size int) string, size int) uint64 {
	part := take(size)
	n := uint64(0)
	for i := range len(part) {
		n = n<<8 | uint64(part[i])
	}
	return n
}

// Two reads a number of 2 bytes.
func (r *Reader) Two() int { return int(number(r.take, 2)) }

// Four reads a number of 4 bytes.
func (r *Reader) Four() int { return int(number(r.take, 4)) }

// Eight reads a number of 8 bytes that is not above most.
func (r *Reader) Eight(most int) int {
	n := number(r.take, 8)
	if most < 0 || n > uint64(most) {
		r.fail()
		return 0
	}
	return int(n)
}

// Text reads a text. It is a copy, so that a short one doesn't keep all that was read in memory.
func (r *Reader) Text() string { return strings.Clone(r.take(r.Two())) }

// Left is how many bytes are left.
func (r *Reader) Left() int {
	if r == nil {
		return 0
	}
	return len(r.rest)
}

// End tells whether all was read, and was right.
func (r *Reader) End() api.Errno {
	if r == nil || r.broken || r.rest != "" {
		return api.ErrForm
	}
	return api.OK
}
