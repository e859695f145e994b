// Package sums is layer 1: see shared/doc/01-sums.md.
package sums

import (
	"math/bits"

	"stratagem/api"
)

// Add tells the sum of two numbers; ErrOver, if it is no number of 64 bits.
func Add(a, b int64) (int64, api.Errno) {
	sum := a + b
	// A sum that wrapped round has the sign of neither of its parts.
	if (a < 0) == (b < 0) && (sum < 0) != (a < 0) {
		return 0, api.ErrOver
	}
	return sum, api.OK
}

// Mul tells the product of two numbers; ErrOver, if it is no number of 64 bits.
func Mul(a, b int64) (int64, api.Errno) {
	below := (a < 0) != (b < 0)
	high, low := bits.Mul64(unsigned(a), unsigned(b))
	if high != 0 {
		goto over
	}
	if below {
		// Below 0 there is one number more: -2^63.
		if low > 1<<63 {
			goto over
		}
		return int64(-low), api.OK
	}
	if low >= 1<<63 {
		goto over
	}
	return int64(low), api.OK
over:
	return 0, api.ErrOver
}

// unsigned tells a number without its sign, as a uint64: that of -2^63 has no room in an int64.
func unsigned(a int64) uint64 {
	if a < 0 {
		return -uint64(a)
	}
	return uint64(a)
}

// Dot tells the sum of the products of the numbers of two lists, one by one;
// ErrArg, if these aren't as long as each other, ErrOver, if a product, or the sum so far, is no number.
func Dot(a, b []int64) (int64, api.Errno) {
	if len(a) != len(b) {
		return 0, api.ErrArg
	}
	var sum int64
	for i := range a {
		product, e := Mul(a[i], b[i])
		if e != api.OK {
			return 0, e
		}
		sum, e = Add(sum, product)
		if e != api.OK {
			return 0, e
		}
	}
	return sum, api.OK
}

// Holds tells whether a compares to b as rel says; of a rel that is none of the six it is false.
func Holds(a int64, rel int, b int64) bool {
	switch rel {
	case api.EQ:
		return a == b
	case api.NE:
		return a != b
	case api.LT:
		return a < b
	case api.LE:
		return a <= b
	case api.GT:
		return a > b
	case api.GE:
		return a >= b
	}
	return false
}
