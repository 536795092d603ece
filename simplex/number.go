package simplex

import (
	"math/bits"

	"exodus/api"
	"exodus/integer"
	"exodus/rational"
)

// room is the greatest number of bits of a small number, so that sums of two of them stay within int64.
const room = 61

// number is an integer of any size. Nearly all numbers are small, and computing with these needs no memory.
type number struct {
	small int64
	large *api.Int // in place of small, if the number has more than room bits; what it points to never changes
}

// packed returns an integer as a number.
func packed(a api.Int) number {
	if n, ok := integer.Int64(a); ok && length(n) <= room {
		return number{small: n}
	}
	return number{large: &a}
}

// wide returns a number as an integer.
func wide(a number) api.Int {
	if a.large != nil {
		return *a.large
	}
	return integer.From(a.small)
}

// magnitude returns the absolute value of n.
func magnitude(n int64) uint64 {
	if n < 0 {
		return -uint64(n)
	}
	return uint64(n)
}

// length returns the number of bits of the absolute value of n.
func length(n int64) int {
	return bits.Len64(magnitude(n))
}

// sign returns -1, 0 or 1.
func sign(a number) int {
	switch {
	case a.large != nil:
		return integer.Sign(*a.large)
	case a.small > 0:
		return 1
	case a.small < 0:
		return -1
	}
	return 0
}

// negative returns the number with the other sign.
func negative(a number) number {
	if a.large != nil {
		return packed(integer.Neg(*a.large))
	}
	return number{small: -a.small}
}

// absolute returns the number without its sign.
func absolute(a number) number {
	if sign(a) < 0 {
		return negative(a)
	}
	return a
}

// plus returns the sum.
func plus(a, b number) number {
	if a.large == nil && b.large == nil {
		if sum := a.small + b.small; length(sum) <= room {
			return number{small: sum}
		}
	}
	return packed(integer.Add(wide(a), wide(b)))
}

// minus returns the difference.
func minus(a, b number) number {
	return plus(a, negative(b))
}

// times returns the product.
func times(a, b number) number {
	if a.large == nil && b.large == nil {
		high, low := bits.Mul64(magnitude(a.small), magnitude(b.small))
		if high == 0 && bits.Len64(low) <= room {
			return number{small: a.small * b.small}
		}
	}
	return packed(integer.Mul(wide(a), wide(b)))
}

// compareProducts compares the absolute values of a times b and of c times d.
func compareProducts(a, b, c, d number) int {
	if a.large != nil || b.large != nil || c.large != nil || d.large != nil {
		left, right := absolute(times(a, b)), absolute(times(c, d))
		return integer.Cmp(wide(left), wide(right))
	}
	high, low := bits.Mul64(magnitude(a.small), magnitude(b.small))
	otherHigh, otherLow := bits.Mul64(magnitude(c.small), magnitude(d.small))
	switch {
	case high == otherHigh && low == otherLow:
		return 0
	case high < otherHigh || high == otherHigh && low < otherLow:
		return -1
	}
	return 1
}

// common returns the greatest common divisor of a positive number and another one.
func common(a, b number) number {
	if a.large == nil && b.large == nil {
		return number{small: int64(divisor(magnitude(a.small), magnitude(b.small)))}
	}
	// The denominator of the fraction b / a in lowest terms is what a and b do not have in common.
	lowest, _ := rational.Make(wide(b), wide(a))
	if len(lowest.Den) == 0 {
		return a
	}
	return quotient(a, packed(api.Int{Mag: lowest.Den}))
}

// divisor returns the greatest common divisor.
func divisor(a, b uint64) uint64 {
	for b != 0 {
		a, b = b, a%b
	}
	return a
}

// divide returns the quotient, rounded towards zero, and the rest.
func divide(a, b number) (number, number) {
	if a.large == nil && b.large == nil {
		return number{small: a.small / b.small}, number{small: a.small % b.small}
	}
	part, rest, _ := integer.Quo(wide(a), wide(b))
	return packed(part), packed(rest)
}

// quotient returns a number divided by one that divides it.
func quotient(a, b number) number {
	part, _ := divide(a, b)
	return part
}

// fraction returns the quotient of two numbers.
func fraction(a, b number) api.Rat {
	q, _ := rational.Make(wide(a), wide(b))
	return q
}
