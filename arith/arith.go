// Package arith is layer 1: see shared/doc/01-arith.md.
package arith

import "math"

// Number is a whole number with a sign.
type Number interface {
	~int16 | ~int32 | ~int64
}

// Sat is a number, held between the least and the greatest one of so many bits (1 to 64; of others 0).
func Sat(n int64, wide int) int64 {
	if wide < 1 || wide > 64 {
		return 0
	}
	greatest := int64(math.MaxInt64) >> (64 - wide)
	return max(-greatest-1, min(n, greatest))
}

// Add is the sum of numbers, one by one, each sum held to sixty-four bits.
func Add(l ...int64) int64 {
	var sum int64
	for _, n := range l {
		sum = addHeld(sum, n)
	}
	return sum
}

// addHeld asks ahead of adding: a sum that went over would have wrapped round.
func addHeld(a, b int64) int64 {
	switch {
	case b > 0 && a > math.MaxInt64-b:
		return math.MaxInt64
	case b < 0 && a < math.MinInt64-b:
		return math.MinInt64
	}
	return a + b
}

// Wide is a number as one of sixty-four bits.
func Wide[T Number](n T) int64 { return int64(n) }

// Round is a number divided by a power of two (0 to 62; of others 0), to the nearest one, halves upwards.
func Round(n int64, by int) int64 {
	if by < 0 || by > 62 {
		return 0
	}
	if by == 0 {
		return n
	}
	// To add a half ahead of the shift could go over; the highest bit that the shift loses says as much.
	lost := n >> (by - 1) & 1
	return n>>by + lost
}

// Mul is a product of two, of thirty-two bits each, divided by a power of two, rounded, and held to thirty-two bits.
func Mul(a, b int32, by int) int32 {
	return int32(Sat(Round(Wide(a)*Wide(b), by), 32))
}

// Root is the greatest number whose square isn't above a number.
func Root(n uint64) uint32 {
	// Bit by bit: a float of 64 bits is too coarse for the greatest squares.
	var root uint64
	for bit := uint64(1) << 31; bit > 0; bit >>= 1 {
		if more := root | bit; more*more <= n {
			root = more
		}
	}
	return uint32(root)
}
