package natural

import "exodus/api"

// DivMod returns the quotient and the remainder.
func DivMod(a, b api.Nat) (api.Nat, api.Nat, api.Errno) {
	a, b = trim(a), trim(b)
	if len(b) == 0 {
		return nil, nil, api.ErrRange
	}
	if Cmp(a, b) < 0 {
		return nil, clone(a), api.OK
	}
	if len(b) == 1 {
		quotient := clone(a)
		rest := divideByDigit(quotient, uint64(b[0]))
		return trim(quotient), From(rest), api.OK
	}
	quotient, rest := divideLong(a, b)
	return quotient, rest, api.OK
}

// divideByDigit replaces a by its quotient and returns the remainder.
func divideByDigit(a api.Nat, divisor uint64) uint64 {
	rest := uint64(0)
	for i := len(a) - 1; i >= 0; i-- {
		part := rest<<digitBits | uint64(a[i])
		a[i] = uint32(part / divisor)
		rest = part % divisor
	}
	return rest
}

// divideLong divides a by b, both without leading zero digits, where b has at least two digits and is at most a. Both are scaled so that the first digit of the divisor is at least half of the base, because nextDigit guesses well only then.
func divideLong(a, b api.Nat) (api.Nat, api.Nat) {
	scale := uint64(1) << (digitBits*len(b) - Bits(b))
	divisor := make(api.Nat, len(b))
	addTimes(divisor, nil, b, scale, 0)
	rest := make(api.Nat, len(a)+1)
	addTimes(rest, nil, a, scale, 0)
	quotient := make(api.Nat, len(a)-len(b)+1)
	for i := len(quotient) - 1; i >= 0; i-- {
		quotient[i] = nextDigit(rest[i:i+len(b)+1], divisor)
	}
	divideByDigit(rest, scale)
	return trim(quotient), trim(rest)
}

// nextDigit returns the quotient of part and divisor, which is a digit, and replaces part by the remainder. The guess from the first digits is never too small, and at most 2 too great.
func nextDigit(part, divisor api.Nat) uint32 {
	n := len(divisor)
	top := uint64(part[n])<<digitBits | uint64(part[n-1])
	guess := min(top/uint64(divisor[n-1]), digitMask)
	negative := subTimes(part, part, divisor, guess) > 0
	for negative {
		guess--
		negative = addTimes(part, part, divisor, 1, 0) == 0
	}
	return uint32(guess)
}
