// Package integer computes with integers of any size.
package integer

import (
	"exodus/api"
	"exodus/natural"
)

// minMagnitude is the magnitude of the least int64.
const minMagnitude = 1 << 63

// Valid reports whether a number is in its only form.
func Valid(a api.Int) bool {
	return natural.Valid(a.Mag) && !(a.Neg && len(a.Mag) == 0)
}

// From returns a number as an Int.
func From(n int64) api.Int {
	if n < 0 {
		// The least int64 is its own negative, and converts to its magnitude.
		return signed(true, natural.From(uint64(-n)))
	}
	return signed(false, natural.From(uint64(n)))
}

// Int64 returns an Int as a number, and false if it is out of range.
func Int64(a api.Int) (int64, bool) {
	n, ok := natural.Uint(a.Mag)
	if !ok || n > minMagnitude || n == minMagnitude && !a.Neg {
		return 0, false
	}
	if a.Neg {
		return -int64(n), true
	}
	return int64(n), true
}

// Sign returns -1, 0 or 1.
func Sign(a api.Int) int {
	if natural.Cmp(a.Mag, nil) == 0 {
		return 0
	}
	if a.Neg {
		return -1
	}
	return 1
}

// Cmp returns -1, 0 or 1 for less, equal and greater.
func Cmp(a, b api.Int) int {
	s, t := Sign(a), Sign(b)
	if s < t {
		return -1
	}
	if s > t {
		return 1
	}
	if s < 0 {
		return natural.Cmp(b.Mag, a.Mag)
	}
	return natural.Cmp(a.Mag, b.Mag)
}

// Neg returns the negative.
func Neg(a api.Int) api.Int {
	return signed(!a.Neg, natural.Add(a.Mag, nil))
}

// Add returns the sum.
func Add(a, b api.Int) api.Int {
	if a.Neg == b.Neg {
		return signed(a.Neg, natural.Add(a.Mag, b.Mag))
	}
	if natural.Cmp(a.Mag, b.Mag) < 0 {
		a, b = b, a
	}
	difference, _ := natural.Sub(a.Mag, b.Mag)
	return signed(a.Neg, difference)
}

// Sub returns the difference.
func Sub(a, b api.Int) api.Int {
	return Add(a, api.Int{Neg: !b.Neg, Mag: b.Mag})
}

// Mul returns the product.
func Mul(a, b api.Int) api.Int {
	return signed(a.Neg != b.Neg, natural.Mul(a.Mag, b.Mag))
}

// signed returns the integer with a sign and a valid magnitude, which it keeps.
func signed(negative bool, magnitude api.Nat) api.Int {
	return api.Int{Neg: negative && len(magnitude) > 0, Mag: magnitude}
}
