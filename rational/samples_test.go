package rational_test

import (
	"math"
	"math/big"
	"math/rand"
	"slices"
	"testing"

	"exodus/api"
	"exodus/rational"
)

// samples returns valid fractions with parts at the ends of a digit and of int64.
func samples() []api.Rat {
	list := []api.Rat{{}}
	for _, x := range []struct{ num, den api.Nat }{
		{api.Nat{1}, nil}, {api.Nat{2}, nil}, {api.Nat{6}, nil}, {api.Nat{0, 1}, nil}, {api.Nat{4294967295, 2147483647}, nil}, {api.Nat{0, 2147483648}, nil}, {api.Nat{1, 2147483648}, nil}, {api.Nat{0, 0, 1}, nil},
		{api.Nat{1}, api.Nat{2}}, {api.Nat{7}, api.Nat{2}}, {api.Nat{1}, api.Nat{3}}, {api.Nat{2}, api.Nat{3}}, {api.Nat{1}, api.Nat{6}}, {api.Nat{5}, api.Nat{6}},
		{api.Nat{1}, api.Nat{0, 1}}, {api.Nat{4294967295}, api.Nat{0, 1}}, {api.Nat{1, 1}, api.Nat{4294967295}}, {api.Nat{0, 0, 1}, api.Nat{4294967295, 4294967295}}, {api.Nat{4294967295, 4294967295, 4294967295}, api.Nat{0, 0, 2147483648}},
	} {
		list = append(list, api.Rat{Num: api.Int{Mag: x.num}, Den: x.den}, api.Rat{Num: api.Int{Neg: true, Mag: x.num}, Den: x.den})
	}
	return list
}

// invalid returns fractions that are not valid for one reason or several.
func invalid() []api.Rat {
	list := []api.Rat{}
	for _, x := range []struct {
		neg      bool
		num, den api.Nat
	}{
		{true, nil, nil}, {true, api.Nat{0}, nil}, {false, api.Nat{0}, nil}, {true, nil, api.Nat{3}}, {false, nil, api.Nat{2}}, {false, nil, api.Nat{1}}, {true, nil, api.Nat{0}},
		{false, api.Nat{3}, api.Nat{0}}, {false, api.Nat{3}, api.Nat{0, 0, 0}}, {true, api.Nat{3}, api.Nat{1}}, {false, api.Nat{3}, api.Nat{1, 0}}, {false, api.Nat{3, 0}, nil},
		{false, api.Nat{3}, api.Nat{2, 0}}, {true, api.Nat{3, 0}, api.Nat{2}}, {false, api.Nat{6}, api.Nat{4}}, {true, api.Nat{6}, api.Nat{3}}, {false, api.Nat{4}, api.Nat{4}}, {true, api.Nat{2}, api.Nat{6, 0, 0}},
		{false, api.Nat{0, 6}, api.Nat{0, 4}}, {true, api.Nat{0, 2147483648}, api.Nat{1}}, {false, api.Nat{0, 0, 2}, api.Nat{2}}, {true, api.Nat{0, 1, 0}, api.Nat{0, 0, 1, 0}},
	} {
		list = append(list, api.Rat{Num: api.Int{Neg: x.neg, Mag: x.num}, Den: x.den})
	}
	return list
}

// forms returns valid and other fractions.
func forms() []api.Rat {
	return append(samples(), invalid()...)
}

// random returns a fraction with parts of up to n digits, which may be not valid.
func random(r *rand.Rand, n int) api.Rat {
	digits := func() api.Nat {
		list := make(api.Nat, r.Intn(n+1))
		for i := range list {
			list[i] = []uint32{0, 1, 6, 1 << 31, 1<<32 - 1, r.Uint32(), r.Uint32()}[r.Intn(7)]
		}
		return list
	}
	return api.Rat{Num: api.Int{Neg: r.Intn(2) == 0, Mag: digits()}, Den: digits()}
}

// each calls check for many fractions.
func each(check func(a api.Rat)) {
	for _, a := range forms() {
		check(a)
	}
	r := rand.New(rand.NewSource(4))
	for range 3000 {
		check(random(r, 3))
	}
}

// pairs calls check for many pairs of fractions.
func pairs(check func(a, b api.Rat)) {
	for _, a := range forms() {
		for _, b := range forms() {
			check(a, b)
		}
	}
	r := rand.New(rand.NewSource(1))
	for i := range 5000 {
		check(random(r, 1+i%5), random(r, 1+i%4))
	}
}

// natural returns the value of a list of digits.
func natural(digits api.Nat) *big.Int {
	v := new(big.Int)
	for _, d := range slices.Backward(digits) {
		v.Lsh(v, 32)
		v.Or(v, big.NewInt(int64(d)))
	}
	return v
}

// whole returns the value of an integer.
func whole(a api.Int) *big.Int {
	v := natural(a.Mag)
	if a.Neg {
		v.Neg(v)
	}
	return v
}

// value returns the value of a fraction.
func value(a api.Rat) *big.Rat {
	den := natural(a.Den)
	if den.Sign() == 0 {
		den.SetInt64(1)
	}
	return new(big.Rat).SetFrac(whole(a.Num), den)
}

// sound reports whether a fraction is in its only form, without asking the packages below.
func sound(a api.Rat) bool {
	for _, digits := range []api.Nat{a.Num.Mag, a.Den} {
		if len(digits) > 0 && digits[len(digits)-1] == 0 {
			return false
		}
	}
	if a.Num.Neg && len(a.Num.Mag) == 0 || slices.Equal(a.Den, api.Nat{1}) {
		return false
	}
	divisor := new(big.Int).GCD(nil, nil, natural(a.Num.Mag), natural(a.Den))
	return len(a.Den) == 0 || divisor.Cmp(big.NewInt(1)) == 0
}

// expect fails unless got is valid and has the value want.
func expect(t *testing.T, name string, got api.Rat, want *big.Rat, arguments ...any) {
	t.Helper()
	if !sound(got) || !rational.Valid(got) {
		t.Fatal(name, "is not valid:", got, arguments)
	}
	if value(got).Cmp(want) != 0 {
		t.Fatal(name, "is", value(got), "instead of", want, arguments)
	}
}

// zero reports whether a fraction is the zero value of its type, apart from empty lists.
func zero(a api.Rat) bool {
	return !a.Num.Neg && len(a.Num.Mag) == 0 && len(a.Den) == 0
}

// same reports whether two fractions have the same digits.
func same(a, b api.Rat) bool {
	return a.Num.Neg == b.Num.Neg && slices.Equal(a.Num.Mag, b.Num.Mag) && slices.Equal(a.Den, b.Den)
}

// numbers returns int64 values at and near the ends of the types.
func numbers() []int64 {
	return []int64{
		0, 1, -1, 2, -2, 6, -6, 1000000007, math.MaxInt32, math.MinInt32, math.MaxUint32, -math.MaxUint32, math.MaxUint32 + 1, -math.MaxUint32 - 1,
		math.MaxInt64 - 1, math.MaxInt64, math.MinInt64 + 1, math.MinInt64,
	}
}
