// Package natural computes with natural numbers of any size.
package natural

import "exodus/api"

const (
	digitBits = 32
	digitMask = 1<<digitBits - 1
)

// Valid reports whether a number has no leading zero digits.
func Valid(a api.Nat) bool {
	return len(trim(a)) == len(a)
}

// From returns a number as a Nat.
func From(n uint64) api.Nat {
	return trim(api.Nat{uint32(n), uint32(n >> digitBits)})
}

// Uint returns a Nat as a number, and false if it is greater than 2^64 - 1.
func Uint(a api.Nat) (uint64, bool) {
	a = trim(a)
	if len(a) > 2 {
		return 0, false
	}
	return digit(a, 1)<<digitBits | digit(a, 0), true
}

// Cmp returns -1, 0 or 1 for less, equal and greater.
func Cmp(a, b api.Nat) int {
	for i := max(len(a), len(b)) - 1; i >= 0; i-- {
		x, y := digit(a, i), digit(b, i)
		if x < y {
			return -1
		}
		if x > y {
			return 1
		}
	}
	return 0
}

// Bits returns the number of binary digits.
func Bits(a api.Nat) int {
	a = trim(a)
	if len(a) == 0 {
		return 0
	}
	bits := digitBits * len(a)
	for top := a[len(a)-1]; top>>(digitBits-1) == 0; top <<= 1 {
		bits--
	}
	return bits
}

// Gcd returns the greatest common divisor.
func Gcd(a, b api.Nat) api.Nat {
	a, b = trim(a), trim(b)
	for len(b) > 0 && max(len(a), len(b)) > 2 {
		_, rest, _ := DivMod(a, b)
		a, b = b, rest
	}
	if len(b) == 0 {
		return clone(a)
	}
	x, _ := Uint(a)
	y, _ := Uint(b)
	for y > 0 {
		x, y = y, x%y
	}
	return From(x)
}

// trim returns a without its leading zero digits. The result shares the memory of a, but has no capacity beyond its end: nobody who appends to it reaches the digits that were cut off.
func trim(a api.Nat) api.Nat {
	n := len(a)
	for n > 0 && a[n-1] == 0 {
		n--
	}
	return a[:n:n]
}

// clone returns the digits of a in memory of their own.
func clone(a api.Nat) api.Nat {
	digits := make(api.Nat, len(a))
	copy(digits, a)
	return digits
}

// digit returns a digit of a, which is 0 beyond its end.
func digit(a api.Nat, i int) uint64 {
	if i < len(a) {
		return uint64(a[i])
	}
	return 0
}
