package integer

import (
	"exodus/api"
	"exodus/natural"
)

// Quo returns the quotient, rounded towards zero, and the remainder.
func Quo(a, b api.Int) (api.Int, api.Int, api.Errno) {
	return divide(a, b, func(api.Int) bool { return false })
}

// Floor returns the quotient, rounded down, and the remainder.
func Floor(a, b api.Int) (api.Int, api.Int, api.Errno) {
	return divide(a, b, func(rest api.Int) bool { return Sign(rest)*Sign(b) < 0 })
}

// divide returns the quotient and the remainder. It rounds towards zero, and then to the next lower integer if the rounding asks for this, given the remainder so far.
func divide(a, b api.Int, lower func(rest api.Int) bool) (api.Int, api.Int, api.Errno) {
	q, r, err := natural.DivMod(a.Mag, b.Mag)
	if err != api.OK {
		return api.Int{}, api.Int{}, err
	}
	quotient, rest := signed(a.Neg != b.Neg, q), signed(a.Neg, r)
	if lower(rest) {
		return Sub(quotient, From(1)), Add(rest, b), api.OK
	}
	return quotient, rest, api.OK
}
