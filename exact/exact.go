// Package exact is layer 1: rounding, products and shares of whole numbers.
package exact

import (
	"cmp"
	"math/bits"
	"slices"

	"landaid/api"
)

// Down returns a / b, rounded to the next lower integer.
func Down(a, b int) int {
	if !fraction(a, b) {
		return 0
	}
	return floor(a, b)
}

// Up returns a / b, rounded to the next greater integer.
func Up(a, b int) int {
	if !fraction(a, b) {
		return 0
	}
	return -floor(-a, b)
}

// Half returns a / b, rounded to the nearest integer, and an exact half to the greater one.
func Half(a, b int) int {
	if !fraction(a, b) {
		return 0
	}
	return floor(2*a+b, 2*b)
}

// Part returns total times part, divided by whole, rounded down.
func Part(total, part, whole int) (int, api.Errno) {
	if !amount(total) || !amount(part) || !divisor(whole) {
		return 0, api.ErrRange
	}
	high, low := product(total, part)
	// From here on the quotient would need more than 64 bits, and Div64 would panic.
	if high >= uint64(whole) {
		return 0, api.ErrRange
	}
	quotient, _ := bits.Div64(high, low, uint64(whole))
	if quotient > api.MaxNumber {
		return 0, api.ErrRange
	}
	return int(quotient), api.OK
}

// Shares divides a total among weights; what rounding leaves over goes to the greatest remainders.
func Shares(total int, weights []int) ([]int, api.Errno) {
	if len(weights) > api.MaxWeights {
		return nil, api.ErrLimit
	}
	if !amount(total) {
		return nil, api.ErrRange
	}
	sum := 0
	for _, weight := range weights {
		if !amount(weight) {
			return nil, api.ErrRange
		}
		sum += weight
	}
	if sum == 0 {
		return make([]int, len(weights)), api.OK
	}
	return divide(total, weights, sum), api.OK
}

// Less reports whether a / b is less than c / d.
func Less(a, b, c, d int) bool {
	switch {
	case !fraction(a, b) || !fraction(c, d):
		return false
	case a < 0 && c < 0:
		return lessPositive(-c, d, -a, b)
	case a < 0 || c < 0:
		return a < c
	}
	return lessPositive(a, b, c, d)
}

// divide returns the shares of weights, whose sum is not 0.
func divide(total int, weights []int, sum int) []int {
	shares := make([]int, len(weights))
	remainders := make([]uint64, len(weights))
	left := total
	for i, weight := range weights {
		// A weight is at most the sum, so that the quotient is at most the total, and fits.
		high, low := product(total, weight)
		quotient, remainder := bits.Div64(high, low, uint64(sum))
		shares[i], remainders[i] = int(quotient), remainder
		left -= shares[i]
	}
	for _, i := range greatestFirst(remainders)[:left] {
		shares[i]++
	}
	return shares
}

// greatestFirst returns the indices of remainders, from the greatest one on, of equal ones the lesser index first.
func greatestFirst(remainders []uint64) []int {
	order := make([]int, len(remainders))
	for i := range order {
		order[i] = i
	}
	slices.SortStableFunc(order, func(i, j int) int {
		return cmp.Compare(remainders[j], remainders[i])
	})
	return order
}

// lessPositive reports whether a / b is less than c / d, where neither a nor c is negative.
func lessPositive(a, b, c, d int) bool {
	leftHigh, leftLow := product(a, d)
	rightHigh, rightLow := product(c, b)
	if leftHigh != rightHigh {
		return leftHigh < rightHigh
	}
	return leftLow < rightLow
}

// product returns the 128 bits of a times b, neither of which is negative.
func product(a, b int) (high, low uint64) {
	return bits.Mul64(uint64(a), uint64(b))
}

// floor returns a / b for a positive b. Go's own division rounds towards 0.
func floor(a, b int) int {
	quotient := a / b
	if a%b < 0 {
		quotient--
	}
	return quotient
}

// fraction reports whether a and b are in the ranges of a dividend and of a divisor.
func fraction(a, b int) bool {
	return a >= -api.MaxNumber && a <= api.MaxNumber && divisor(b)
}

// divisor reports whether n is in the range of a divisor.
func divisor(n int) bool { return n >= 1 && n <= api.MaxTotal }

// amount reports whether n is in the range of a total, a part or a weight.
func amount(n int) bool { return n >= 0 && n <= api.MaxTotal }
