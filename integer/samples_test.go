package integer_test

import (
	"math"
	"math/big"
	"math/rand"
	"slices"
	"testing"

	"exodus/api"
	"exodus/integer"
)

// samples returns valid integers, among them the ends of int64 and uint64 and their neighbours.
func samples() []api.Int {
	list := []api.Int{{}}
	for _, m := range []api.Nat{
		{1}, {2}, {3}, {7}, {10}, {1000000000}, {2147483648}, {4294967295}, {0, 1}, {1, 1},
		{4294967295, 2147483647}, {0, 2147483648}, {1, 2147483648}, {4294967295, 4294967295}, {0, 0, 1}, {1, 0, 1}, {0, 5, 0, 7}, {4294967295, 4294967295, 4294967295, 2147483648},
	} {
		list = append(list, api.Int{Mag: m}, api.Int{Neg: true, Mag: m})
	}
	return list
}

// padded returns a with n leading zero digits.
func padded(a api.Int, n int) api.Int {
	return api.Int{Neg: a.Neg, Mag: append(slices.Clone(a.Mag), make(api.Nat, n)...)}
}

// forms returns the samples, and integers of the same values that are not valid.
func forms() []api.Int {
	list := []api.Int{{Mag: api.Nat{}}, {Neg: true}, {Neg: true, Mag: api.Nat{}}, {Neg: true, Mag: api.Nat{0}}, {Neg: true, Mag: api.Nat{0, 0, 0}}, {Mag: api.Nat{0}}}
	for i, a := range samples() {
		list = append(list, a, padded(a, 1+i%3))
	}
	return list
}

// random returns an integer of up to n digits, which may be not valid.
func random(r *rand.Rand, n int) api.Int {
	magnitude := make(api.Nat, r.Intn(n+1))
	for i := range magnitude {
		magnitude[i] = []uint32{0, 1, 1 << 31, 1<<32 - 1, r.Uint32(), r.Uint32()}[r.Intn(6)]
	}
	return api.Int{Neg: r.Intn(2) == 0, Mag: magnitude}
}

// pairs calls check for many pairs of integers.
func pairs(check func(a, b api.Int)) {
	for _, a := range forms() {
		for _, b := range forms() {
			check(a, b)
		}
	}
	r := rand.New(rand.NewSource(1))
	for range 10000 {
		check(random(r, 8), random(r, 5))
	}
}

// value returns the value of an integer.
func value(a api.Int) *big.Int {
	v := new(big.Int)
	for _, d := range slices.Backward(a.Mag) {
		v.Lsh(v, 32)
		v.Or(v, big.NewInt(int64(d)))
	}
	if a.Neg {
		v.Neg(v)
	}
	return v
}

// sound reports whether an integer is in its only form, without asking the package.
func sound(a api.Int) bool {
	if len(a.Mag) == 0 {
		return !a.Neg
	}
	return a.Mag[len(a.Mag)-1] != 0
}

// expect fails unless got is valid and has the value want.
func expect(t *testing.T, name string, got api.Int, want *big.Int, arguments ...any) {
	t.Helper()
	if !sound(got) || !integer.Valid(got) {
		t.Fatal(name, "is not valid:", got, arguments)
	}
	if value(got).Cmp(want) != 0 {
		t.Fatal(name, "is", value(got), "instead of", want, arguments)
	}
}

// numbers returns int64 values at and near the ends of the types.
func numbers() []int64 {
	return []int64{
		0, 1, -1, 2, -2, 7, -7, 1000000007, -1000000007, math.MaxInt32, math.MinInt32, math.MaxUint32, -math.MaxUint32, math.MaxUint32 + 1, -math.MaxUint32 - 1,
		math.MaxInt64 - 1, math.MaxInt64, math.MinInt64 + 1, math.MinInt64,
	}
}
