package natural_test

import (
	"math/big"
	"math/rand"
	"slices"
	"testing"

	"exodus/api"
	"exodus/natural"
)

// samples returns numbers at which carries, borrows, guessed digits of quotients and chunks of decimal digits meet their ends.
func samples() []api.Nat {
	return []api.Nat{
		nil, {1}, {2}, {3}, {7}, {10}, {999999999}, {1000000000}, {1000000001}, {2147483647}, {2147483648}, {4294967294}, {4294967295},
		{0, 1}, {1, 1}, {4294967295, 1}, {2808348672, 232830643}, {0, 2147483648}, {1, 2147483648}, {4294967295, 2147483647}, {0, 4294967295}, {4294967295, 4294967295},
		{0, 0, 1}, {1, 0, 1}, {0, 1, 1}, {5, 0, 2147483648}, {4294967295, 0, 2147483648}, {0, 4294967295, 2147483647}, {4294967295, 4294967295, 4294967295},
		{0, 0, 0, 1}, {3, 0, 0, 2147483648}, {0, 4294967294, 4294967295, 2147483648}, {4294967295, 4294967295, 0, 2147483648, 2147483647},
	}
}

// padded returns a with n leading zero digits.
func padded(a api.Nat, n int) api.Nat {
	return append(slices.Clone(a), make(api.Nat, n)...)
}

// forms returns the samples with and without leading zero digits.
func forms() []api.Nat {
	list := []api.Nat{{}}
	for i, a := range samples() {
		list = append(list, a, padded(a, 1+i%3))
	}
	return list
}

// random returns a number of up to n digits, many of which are extreme.
func random(r *rand.Rand, n int) api.Nat {
	a := make(api.Nat, r.Intn(n+1))
	for i := range a {
		extreme := []uint32{0, 1, 1<<31 - 1, 1 << 31, 1<<32 - 2, 1<<32 - 1}
		if k := r.Intn(2 * len(extreme)); k < len(extreme) {
			a[i] = extreme[k]
		} else {
			a[i] = r.Uint32()
		}
	}
	return a
}

// pairs calls check for many pairs of numbers.
func pairs(check func(a, b api.Nat)) {
	for _, a := range forms() {
		for _, b := range forms() {
			check(a, b)
		}
	}
	r := rand.New(rand.NewSource(1))
	for i := range 20000 {
		check(random(r, 3+i%12), random(r, 2+i%7))
	}
	for range 20 {
		check(random(r, 400), random(r, 300))
	}
}

// value returns the value of a number.
func value(a api.Nat) *big.Int {
	v := new(big.Int)
	for _, d := range slices.Backward(a) {
		v.Lsh(v, 32)
		v.Or(v, big.NewInt(int64(d)))
	}
	return v
}

// expect fails unless got is valid and has the value want.
func expect(t *testing.T, name string, got api.Nat, want *big.Int, arguments ...any) {
	t.Helper()
	if len(got) > 0 && got[len(got)-1] == 0 || !natural.Valid(got) {
		t.Fatal(name, "is not valid:", got, arguments)
	}
	if value(got).Cmp(want) != 0 {
		t.Fatal(name, "is", value(got), "instead of", want, arguments)
	}
}
