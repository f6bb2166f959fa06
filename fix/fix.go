// Package fix is layer 1: numbers that do not wrap: see shared/doc/01-fix.md.
package fix

import "math/bits"

const (
	// greatest is what stands for all that 64 bits cannot hold.
	greatest = 1<<64 - 1

	// gainParts is how many parts Gain takes a whole for.
	gainParts = 256

	// rootBits is how many bits a cube root of 64 bits has at most.
	rootBits = 22
)

// Add is a sum, or the greatest number.
func Add(a, b uint64) uint64 {
	sum, carry := bits.Add64(a, b, 0)
	if carry != 0 {
		return greatest
	}
	return sum
}

// Sub is a difference, or 0.
func Sub(a, b uint64) uint64 {
	if b > a {
		return 0
	}
	return a - b
}

// Mul is a product, or the greatest number.
func Mul(a, b uint64) uint64 {
	high, low := bits.Mul64(a, b)
	if high != 0 {
		return greatest
	}
	return low
}

// MulDiv is a product through a number, or the greatest number.
func MulDiv(a, b, c uint64) uint64 {
	high, low := bits.Mul64(a, b)
	if high == 0 && low == 0 {
		return 0
	}
	// A quotient fits 64 bits only if the high word is below the divisor; no word is below 0, so this holds a division by 0 off too.
	if high >= c {
		return greatest
	}
	quotient, _ := bits.Div64(high, low, c)
	return quotient
}

// Gain is so many parts of 256 of a number.
func Gain(a, parts uint64) uint64 {
	return MulDiv(a, parts, gainParts)
}

// Cbrt is a cube root, downwards.
func Cbrt(a uint64) uint64 {
	// The cube of 22 bits may take 66: Mul would tell the greatest number of it, which fits into the greatest a, wrongly.
	fits := func(root uint64) bool {
		high, low := bits.Mul64(root*root, root)
		return high == 0 && low <= a
	}
	root := uint64(0)
	for i := range rootBits {
		next := root | 1<<(rootBits-1-i)
		if fits(next) {
			root = next
		}
	}
	return root
}
