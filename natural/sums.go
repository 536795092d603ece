package natural

import "exodus/api"

// Add returns the sum.
func Add(a, b api.Nat) api.Nat {
	sum := make(api.Nat, max(len(a), len(b))+1)
	addTimes(sum, a, b, 1, 0)
	return trim(sum)
}

// Sub returns the difference.
func Sub(a, b api.Nat) (api.Nat, api.Errno) {
	if Cmp(a, b) < 0 {
		return nil, api.ErrRange
	}
	difference := make(api.Nat, len(a))
	subTimes(difference, a, b, 1)
	return trim(difference), api.OK
}

// Mul returns the product.
func Mul(a, b api.Nat) api.Nat {
	product := make(api.Nat, len(a)+len(b))
	for i, y := range b {
		row := product[i : i+len(a)+1]
		addTimes(row, row, a, uint64(y), 0)
	}
	return trim(product)
}

// combine stores in out what step makes of the digits of a and b, from the least significant ones on; beyond the end of a or b they are 0. It reads each pair before it stores its result, so out may be one of the two lists.
func combine(out, a, b api.Nat, step func(x, y uint64) uint32) {
	for i := range out {
		out[i] = step(digit(a, i), digit(b, i))
	}
}

// addTimes stores a + b * times + carry in out, and returns the carry beyond its end; times and carry are digits. A digit plus a product of two digits plus a carry is at most 2^64 - 1.
func addTimes(out, a, b api.Nat, times, carry uint64) uint64 {
	rest := carry
	combine(out, a, b, func(x, y uint64) uint32 {
		rest += x + y*times
		low := uint32(rest)
		rest >>= digitBits
		return low
	})
	return rest
}

// subTimes stores a - b * times in out, and returns what it borrows from beyond its end; times is a digit.
func subTimes(out, a, b api.Nat, times uint64) uint64 {
	borrow := uint64(0)
	combine(out, a, b, func(x, y uint64) uint32 {
		taken := borrow + y*times
		left := x - taken&digitMask
		borrow = taken>>digitBits + left>>63
		return uint32(left)
	})
	return borrow
}
