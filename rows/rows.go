// Package rows writes and reads things in bytes, one behind another: for the layers that have rows of them.
package rows

import "vinery/api"

// Write writes all of them: the first one that has an error tells it.
func Write[T any](l []T, write func(T) ([]byte, api.Errno)) ([]byte, api.Errno) {
	var row []byte
	for _, one := range l {
		b, errno := write(one)
		if errno != api.OK {
			return nil, errno
		}
		row = append(row, b...)
	}
	return row, api.OK
}

// Read is the way back: each step takes one at the front, of at least one byte. Also where no bytes are left one is asked for, as a size that may not be is told ahead of their end.
func Read[T any](b []byte, size int, take func([]byte, int) (T, int, api.Errno)) ([]T, api.Errno) {
	var l []T
	for {
		one, n, errno := take(b, size)
		if errno == api.ErrEnd && len(b) == 0 {
			return l, api.OK
		}
		if errno != api.OK {
			return nil, errno
		}
		l, b = append(l, one), b[n:]
	}
}
