package integer_test

import (
	"math"
	"math/big"
	"testing"

	"exodus/api"
	"exodus/integer"
)

// P2.1
func TestValid(t *testing.T) {
	for _, a := range samples() {
		if !integer.Valid(a) {
			t.Error(a, "is valid")
		}
	}
	for _, a := range []api.Int{
		{Neg: true}, {Neg: true, Mag: api.Nat{}}, {Neg: true, Mag: api.Nat{0}}, {Mag: api.Nat{0}}, {Mag: api.Nat{0, 0}},
		{Mag: api.Nat{1, 0}}, {Neg: true, Mag: api.Nat{1, 0}}, {Neg: true, Mag: api.Nat{0, 1, 0, 0}},
	} {
		if integer.Valid(a) {
			t.Error(a, "is not valid")
		}
	}
}

// P2.1
func TestFromAndInt64(t *testing.T) {
	for _, n := range numbers() {
		a := integer.From(n)
		expect(t, "integer", a, big.NewInt(n), n)
		for zeros := range 4 {
			if back, ok := integer.Int64(padded(a, zeros)); back != n || !ok {
				t.Error(n, zeros, back, ok)
			}
		}
	}
	for _, a := range []api.Int{{Neg: true}, {Neg: true, Mag: api.Nat{0}}, {Mag: api.Nat{0, 0, 0, 0}}} {
		if n, ok := integer.Int64(a); n != 0 || !ok {
			t.Error(a, n, ok)
		}
	}
}

// P2.1: the least and the greatest int64 and what is beyond them.
func TestInt64Range(t *testing.T) {
	pairs(func(a, _ api.Int) {
		n, ok := integer.Int64(a)
		if ok != value(a).IsInt64() || ok && value(a).Int64() != n || !ok && n != 0 {
			t.Fatal(a, n, ok)
		}
	})
	one := integer.From(1)
	if n, ok := integer.Int64(integer.Add(integer.From(math.MaxInt64), one)); n != 0 || ok {
		t.Error(n, ok)
	}
	if n, ok := integer.Int64(integer.Sub(integer.From(math.MinInt64), one)); n != 0 || ok {
		t.Error(n, ok)
	}
	if n, ok := integer.Int64(integer.Neg(integer.From(math.MinInt64))); n != 0 || ok {
		t.Error(n, ok)
	}
}

// P2.2
func TestSign(t *testing.T) {
	for _, a := range forms() {
		if got, want := integer.Sign(a), value(a).Sign(); got != want {
			t.Error(a, got, want)
		}
	}
}

// P2.2
func TestCmp(t *testing.T) {
	pairs(func(a, b api.Int) {
		if got, want := integer.Cmp(a, b), value(a).Cmp(value(b)); got != want {
			t.Fatal(a, b, got, want)
		}
	})
}

// P2.3
func TestArithmetic(t *testing.T) {
	pairs(func(a, b api.Int) {
		expect(t, "negative", integer.Neg(a), new(big.Int).Neg(value(a)), a)
		expect(t, "sum", integer.Add(a, b), new(big.Int).Add(value(a), value(b)), a, b)
		expect(t, "difference", integer.Sub(a, b), new(big.Int).Sub(value(a), value(b)), a, b)
		expect(t, "product", integer.Mul(a, b), new(big.Int).Mul(value(a), value(b)), a, b)
	})
}

// floored returns the quotient of a and b, rounded down, and the remainder.
func floored(a, b *big.Int) (*big.Int, *big.Int) {
	q, r := new(big.Int).QuoRem(a, b, new(big.Int))
	if r.Sign()*b.Sign() < 0 {
		q.Sub(q, big.NewInt(1))
		r.Add(r, b)
	}
	return q, r
}

// P2.4
func TestQuoAndFloor(t *testing.T) {
	pairs(func(a, b api.Int) {
		q, r, err := integer.Quo(a, b)
		f, s, also := integer.Floor(a, b)
		if integer.Sign(b) == 0 {
			if err != api.ErrRange || also != api.ErrRange || q.Neg || r.Neg || f.Neg || s.Neg || len(q.Mag)+len(r.Mag)+len(f.Mag)+len(s.Mag) != 0 {
				t.Fatal(a, b, q, r, err, f, s, also)
			}
			return
		}
		if err != api.OK || also != api.OK {
			t.Fatal(a, b, err, also)
		}
		wantQ, wantR := new(big.Int).QuoRem(value(a), value(b), new(big.Int))
		expect(t, "quotient", q, wantQ, a, b)
		expect(t, "remainder", r, wantR, a, b)
		wantF, wantS := floored(value(a), value(b))
		expect(t, "quotient, rounded down,", f, wantF, a, b)
		expect(t, "remainder of Floor", s, wantS, a, b)
	})
}

// P2.4
func TestRounding(t *testing.T) {
	for _, x := range [][6]int64{
		{-7, 2, -3, -1, -4, 1}, {7, -2, -3, 1, -4, -1}, {7, 2, 3, 1, 3, 1}, {-7, -2, 3, -1, 3, -1},
		{-8, 2, -4, 0, -4, 0}, {8, -2, -4, 0, -4, 0}, {1, -5, 0, 1, -1, -4}, {-1, 5, 0, -1, -1, 4}, {0, -5, 0, 0, 0, 0},
		{math.MinInt64, math.MaxInt64, -1, -1, -2, math.MaxInt64 - 1}, {math.MinInt64, 1, math.MinInt64, 0, math.MinInt64, 0},
	} {
		a, b := integer.From(x[0]), integer.From(x[1])
		q, r, _ := integer.Quo(a, b)
		f, s, _ := integer.Floor(a, b)
		for i, got := range []api.Int{q, r, f, s} {
			if n, ok := integer.Int64(got); n != x[i+2] || !ok {
				t.Error(x, i, got)
			}
		}
	}
	q, r, err := integer.Quo(integer.From(math.MinInt64), integer.From(-1))
	if integer.Text(q) != "9223372036854775808" || integer.Sign(r) != 0 || err != api.OK {
		t.Error(q, r, err)
	}
	for _, zero := range []api.Int{{}, {Neg: true}, {Mag: api.Nat{0, 0}}, {Neg: true, Mag: api.Nat{0}}} {
		if _, _, err := integer.Quo(integer.From(3), zero); err != api.ErrRange {
			t.Error(zero, err)
		}
		if _, _, err := integer.Floor(zero, zero); err != api.ErrRange {
			t.Error(zero, err)
		}
	}
}
