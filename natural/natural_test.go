package natural_test

import (
	"math"
	"math/big"
	"slices"
	"testing"

	"exodus/api"
	"exodus/natural"
)

// P1.1
func TestValid(t *testing.T) {
	for _, a := range []api.Nat{nil, {}, {1}, {0, 1}, {0, 0, 4294967295}} {
		if !natural.Valid(a) {
			t.Error(a, "is valid")
		}
	}
	for _, a := range []api.Nat{{0}, {0, 0}, {1, 0}, {4294967295, 7, 0}, {0, 1, 0, 0}} {
		if natural.Valid(a) {
			t.Error(a, "is not valid")
		}
	}
}

// P1.1
func TestFromAndUint(t *testing.T) {
	for n, want := range map[uint64]api.Nat{
		0: nil, 1: {1}, math.MaxUint32: {4294967295}, math.MaxUint32 + 1: {0, 1}, 1<<40 + 3: {3, 256},
		math.MaxInt64: {4294967295, 2147483647}, 1 << 63: {0, 2147483648}, math.MaxUint64: {4294967295, 4294967295},
	} {
		got := natural.From(n)
		if !slices.Equal(got, want) {
			t.Error(n, got)
		}
		for zeros := range 4 {
			if back, ok := natural.Uint(padded(want, zeros)); back != n || !ok {
				t.Error(n, zeros, back, ok)
			}
		}
	}
	for _, a := range []api.Nat{{0, 0, 1}, {4294967295, 4294967295, 1}, {1, 0, 0, 1}, {0, 0, 1, 0}, {5, 5, 0, 0, 5, 0}} {
		if n, ok := natural.Uint(a); n != 0 || ok {
			t.Error(a, n, ok)
		}
	}
}

// P1.1
func TestBits(t *testing.T) {
	for _, a := range forms() {
		if got, want := natural.Bits(a), value(a).BitLen(); got != want {
			t.Error(a, got, want)
		}
	}
	for i := range 200 {
		a := make(api.Nat, i/32+1)
		a[i/32] = 1 << (i % 32)
		if got := natural.Bits(padded(a, i%3)); got != i+1 {
			t.Error(i, got)
		}
	}
}

// P1.2
func TestCmp(t *testing.T) {
	pairs(func(a, b api.Nat) {
		if got, want := natural.Cmp(a, b), value(a).Cmp(value(b)); got != want {
			t.Fatal(a, b, got, want)
		}
		if natural.Cmp(a, padded(a, 2)) != 0 || natural.Cmp(padded(a, 2), a) != 0 {
			t.Fatal(a, "differs from itself")
		}
	})
	if natural.Cmp(api.Nat{1, 2}, api.Nat{2, 1}) != 1 || natural.Cmp(api.Nat{9, 0, 0}, api.Nat{0, 1}) != -1 {
		t.Error("the last digit decides, unless it is a leading zero")
	}
}

// P1.3
func TestAdd(t *testing.T) {
	pairs(func(a, b api.Nat) {
		expect(t, "sum", natural.Add(a, b), new(big.Int).Add(value(a), value(b)), a, b)
	})
}

// P1.3
func TestSub(t *testing.T) {
	pairs(func(a, b api.Nat) {
		got, err := natural.Sub(a, b)
		if value(a).Cmp(value(b)) >= 0 {
			expect(t, "difference", got, new(big.Int).Sub(value(a), value(b)), a, b)
			if err != api.OK {
				t.Fatal(a, b, err)
			}
		} else if err != api.ErrRange || len(got) != 0 {
			t.Fatal(a, b, got, err)
		}
	})
}

// P1.3
func TestMul(t *testing.T) {
	pairs(func(a, b api.Nat) {
		expect(t, "product", natural.Mul(a, b), new(big.Int).Mul(value(a), value(b)), a, b)
	})
	if got := natural.Mul(api.Nat{4294967295}, api.Nat{4294967295}); !slices.Equal(got, api.Nat{1, 4294967294}) {
		t.Error(got)
	}
}

// P1.4
func TestDivMod(t *testing.T) {
	pairs(func(a, b api.Nat) {
		q, r, err := natural.DivMod(a, b)
		if value(b).Sign() == 0 {
			if err != api.ErrRange || len(q) != 0 || len(r) != 0 {
				t.Fatal(a, b, q, r, err)
			}
			return
		}
		wantQ, wantR := new(big.Int).DivMod(value(a), value(b), new(big.Int))
		expect(t, "quotient", q, wantQ, a, b)
		expect(t, "remainder", r, wantR, a, b)
		if err != api.OK {
			t.Fatal(a, b, err)
		}
	})
}

// P1.4: quotients whose digits are guessed too great, by 1 and by 2, and quotients of multiples and of their neighbours.
func TestDivModGuesses(t *testing.T) {
	check := func(q, b, r api.Nat) {
		a := natural.Add(natural.Mul(q, b), r)
		gotQ, gotR, err := natural.DivMod(a, b)
		if err != api.OK || natural.Cmp(gotQ, q) != 0 || natural.Cmp(gotR, r) != 0 {
			t.Fatal(a, b, gotQ, gotR, err)
		}
	}
	for _, q := range samples() {
		for _, b := range samples()[1:] {
			greatest, _ := natural.Sub(b, api.Nat{1})
			check(q, b, nil)
			check(q, b, greatest)
		}
	}
	check(api.Nat{4294967293}, api.Nat{4294967295, 2147483648}, api.Nat{1})
	check(api.Nat{4294967295, 4294967293}, api.Nat{4294967295, 4294967295, 2147483648}, nil)
}

// P1.4
func TestDivModExample(t *testing.T) {
	a, _ := natural.Parse("100000000000000000000")
	q, r, err := natural.DivMod(a, api.Nat{7})
	if natural.Text(q) != "14285714285714285714" || !slices.Equal(r, api.Nat{2}) || err != api.OK {
		t.Error(q, r, err)
	}
	for _, zero := range []api.Nat{nil, {}, {0}, {0, 0, 0}} {
		if q, r, err := natural.DivMod(a, zero); len(q) != 0 || len(r) != 0 || err != api.ErrRange {
			t.Error(zero, q, r, err)
		}
	}
}

// P1.5
func TestGcd(t *testing.T) {
	pairs(func(a, b api.Nat) {
		expect(t, "divisor", natural.Gcd(a, b), new(big.Int).GCD(nil, nil, value(a), value(b)), a, b)
	})
	for _, a := range forms() {
		expect(t, "divisor", natural.Gcd(a, nil), value(a), a)
		expect(t, "divisor", natural.Gcd(api.Nat{0, 0}, a), value(a), a)
	}
}

// P1.5: numbers with a common divisor, and neighbours in Fibonacci's sequence, for which Euclid's method takes longest.
func TestGcdOfProducts(t *testing.T) {
	a, b := api.Nat{1}, api.Nat{1}
	for i := range 500 {
		g := natural.From(uint64(i)*uint64(i)*1000003 + 1)
		expect(t, "divisor", natural.Gcd(natural.Mul(a, g), natural.Mul(b, g)), value(g), a, b)
		expect(t, "divisor", natural.Gcd(natural.Mul(b, g), natural.Mul(a, g)), value(g), b, a)
		a, b = b, natural.Add(a, b)
	}
}
