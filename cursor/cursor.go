// Package cursor is layer 1: reading and writing within bounds: see shared/doc/01-cursor.md.
package cursor

import (
	"bytes"

	"vinery/api"
)

// maxSize is how many bytes a number has at most.
const maxSize = 4

// Reader reads bytes; what its place tells of itself, it tells too.
type Reader struct{ place }

// Open opens some: a copy, as they may change before they are read.
func Open(b []byte) *Reader {
	return &Reader{place{rest: bytes.Clone(b)}}
}

// Num reads a number, the highest byte first.
func (r *Reader) Num(size int) int {
	if size < 1 || size > maxSize {
		r.spoil()
	}
	n := 0
	for _, b := range r.step(size) {
		n = n<<8 | int(b)
	}
	return n
}

// Take reads bytes.
func (r *Reader) Take(n int) []byte {
	return bytes.Clone(r.step(n))
}

// Sub is a reader of some of them: bad, if this one is bad behind them.
func (r *Reader) Sub(n int) *Reader {
	b := r.Take(n)
	return &Reader{place{rest: b, bad: r.bad}}
}

// Put writes a number behind bytes, in new memory.
func Put(b []byte, n, size int) ([]byte, api.Errno) {
	if size < 1 || size > maxSize {
		return nil, api.ErrArg
	}
	if n < 0 || n >= 1<<(8*size) {
		return nil, api.ErrNum
	}
	out := make([]byte, len(b), len(b)+size)
	copy(out, b)
	for shift := 8 * (size - 1); shift >= 0; shift -= 8 {
		out = append(out, byte(n>>shift))
	}
	return out, api.OK
}

// Order orders two rows of bytes.
func Order(a, b []byte) int { return bytes.Compare(a, b) }
