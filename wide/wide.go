// Package wide is layer 1: see shared/doc/01-wide.md.
package wide

import (
	"math/bits"

	"datum/api"
)

// maxDigits is how many digits 2^128 - 1 has.
const maxDigits = 39

// halves are the words of a wide number, the low one first: a carry goes from each to the next.
type halves [2]uint64

func split(a api.W) halves { return halves{a.Lo, a.Hi} }

func (h halves) whole() api.W { return api.W{Hi: h[1], Lo: h[0]} }

// Add is a and b together, round at 2^128, and whether it went round.
func Add(a, b api.W) (api.W, bool) {
	x, y := split(a), split(b)
	var sum halves
	var carry uint64
	for i := range len(sum) {
		sum[i], carry = bits.Add64(x[i], y[i], carry)
	}
	return sum.whole(), carry != 0
}

// Sub is a without b, round at 2^128, and whether it went round.
func Sub(a, b api.W) (api.W, bool) {
	x, y := split(a), split(b)
	var rest halves
	var borrow uint64
	for i := range len(rest) {
		rest[i], borrow = bits.Sub64(x[i], y[i], borrow)
	}
	return rest.whole(), borrow != 0
}

// Mul is x times y, which always fits.
func Mul(x, y uint64) api.W {
	hi, lo := bits.Mul64(x, y)
	return api.W{Hi: hi, Lo: lo}
}

// Times is a times b, round at 2^128, and whether it went round.
func Times(a, b api.W) (api.W, bool) {
	x, y := split(a), split(b)
	// Twice as many words as a factor has hold every product: what is in the upper ones went round.
	var product [4]uint64
	for i := range len(x) {
		var carry uint64
		for j := range len(y) {
			product[i+j], carry = mulAdd(x[i], y[j], product[i+j], carry)
		}
		product[i+len(y)] = carry
	}
	return halves{product[0], product[1]}.whole(), product[2] != 0 || product[3] != 0
}

// mulAdd is x times y, and p and q, together: its low word, and its high one, which is never too small, as (2^64 - 1)^2 + 2 (2^64 - 1) is 2^128 - 1.
func mulAdd(x, y, p, q uint64) (uint64, uint64) {
	hi, lo := bits.Mul64(x, y)
	lo, carry := bits.Add64(lo, p, 0)
	hi += carry
	lo, carry = bits.Add64(lo, q, 0)
	return lo, hi + carry
}

// Less is whether a is less than b.
func Less(a, b api.W) bool {
	_, below := Sub(a, b)
	return below
}

// Text is the decimal digits of a.
func Text(a api.W) string {
	var digits [maxDigits]byte
	rest, first := split(a), maxDigits
	for range maxDigits {
		var digit uint64
		rest, digit = rest.tenth()
		first--
		digits[first] = '0' + byte(digit)
		if rest == (halves{}) {
			break
		}
	}
	return string(digits[first:])
}

// tenth is how often ten goes into h, and what is left.
func (h halves) tenth() (halves, uint64) {
	var often halves
	var left uint64
	for i := range len(h) {
		high := len(h) - 1 - i
		// left is below ten, so that the quotient is one word, as Div64 asks for.
		often[high], left = bits.Div64(left, h[high], 10)
	}
	return often, left
}
