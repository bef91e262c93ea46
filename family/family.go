// Package family tells of the families of routes: for the layers that have them in bytes.
package family

import "vinery/api"

// The sizes of addresses, and what stands for them in bytes.
const (
	sizeFour   = 4
	sizeSix    = 16
	numberFour = 1
	numberSix  = 2
)

// Known tells whether a family is: just four are.
func Known(f api.Family) bool {
	return Number(f.Size) > 0 && (f.Safi == api.SafiMulti || f.Safi == api.SafiPrivate)
}

// Number is what stands for a size: 0, if nothing does.
func Number(size int) byte {
	switch size {
	case sizeFour:
		return numberFour
	case sizeSix:
		return numberSix
	}
	return 0
}

// Size is the way back: 0, if a number stands for none.
func Size(number int) int {
	switch number {
	case numberFour:
		return sizeFour
	case numberSix:
		return sizeSix
	}
	return 0
}
