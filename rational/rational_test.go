package rational_test

import (
	"math"
	"math/big"
	"testing"

	"exodus/api"
	"exodus/rational"
)

// P3.1
func TestValid(t *testing.T) {
	for _, a := range samples() {
		if !rational.Valid(a) {
			t.Error(a, "is valid")
		}
	}
	for _, a := range invalid() {
		if rational.Valid(a) {
			t.Error(a, "is not valid")
		}
	}
	each(func(a api.Rat) {
		if rational.Valid(a) != sound(a) {
			t.Fatal(a)
		}
	})
}

// P3.1: also integers that are not valid, a zero with Neg set, and divisors below 0.
func TestMake(t *testing.T) {
	pairs(func(x, y api.Rat) {
		a, b := x.Num, y.Num
		got, err := rational.Make(a, b)
		if whole(b).Sign() == 0 {
			if err != api.ErrRange || !zero(got) {
				t.Fatal(a, b, got, err)
			}
			return
		}
		if err != api.OK {
			t.Fatal(a, b, err)
		}
		expect(t, "quotient", got, new(big.Rat).SetFrac(whole(a), whole(b)), a, b)
	})
}

// P3.1
func TestFrac(t *testing.T) {
	for _, a := range numbers() {
		for _, b := range numbers() {
			got, err := rational.Frac(a, b)
			if b == 0 {
				if err != api.ErrRange || !zero(got) {
					t.Error(a, b, got, err)
				}
				continue
			}
			if err != api.OK {
				t.Error(a, b, err)
			}
			expect(t, "quotient", got, new(big.Rat).SetFrac(big.NewInt(a), big.NewInt(b)), a, b)
		}
	}
}

// P3.1
func TestFromAndInt64(t *testing.T) {
	for _, n := range numbers() {
		a := rational.From(n)
		expect(t, "fraction", a, new(big.Rat).SetInt64(n), n)
		if back, ok := rational.Int64(a); back != n || !ok {
			t.Error(n, back, ok)
		}
	}
	each(func(a api.Rat) {
		n, ok := rational.Int64(a)
		v := value(a)
		want := v.IsInt() && v.Num().IsInt64()
		if ok != want || ok && n != v.Num().Int64() || !ok && n != 0 {
			t.Fatal(a, n, ok)
		}
	})
}

// P3.1: integers and others, as valid fractions and as fractions that are not.
func TestInt64Range(t *testing.T) {
	for _, x := range []struct {
		a, b string
		n    int64
		ok   bool
	}{
		{"9223372036854775807", "1", math.MaxInt64, true}, {"9223372036854775808", "1", 0, false}, {"18446744073709551614", "2", math.MaxInt64, true}, {"18446744073709551616", "2", 0, false},
		{"-9223372036854775808", "1", math.MinInt64, true}, {"-9223372036854775809", "1", 0, false}, {"-18446744073709551616", "2", math.MinInt64, true}, {"-18446744073709551618", "2", 0, false},
		{"1", "2", 0, false}, {"-7", "3", 0, false}, {"0", "5", 0, true}, {"6", "3", 2, true}, {"18446744073709551615", "2", 0, false},
	} {
		num, _ := rational.Parse(x.a)
		den, _ := rational.Parse(x.b)
		a := api.Rat{Num: num.Num, Den: den.Num.Mag}
		if n, ok := rational.Int64(a); n != x.n || ok != x.ok {
			t.Error(x, n, ok)
		}
	}
}

// P3.2
func TestSign(t *testing.T) {
	each(func(a api.Rat) {
		if got, want := rational.Sign(a), value(a).Sign(); got != want {
			t.Fatal(a, got, want)
		}
	})
}

// P3.2
func TestCmp(t *testing.T) {
	pairs(func(a, b api.Rat) {
		if got, want := rational.Cmp(a, b), value(a).Cmp(value(b)); got != want {
			t.Fatal(a, b, got, want)
		}
	})
}

// P3.3
func TestArithmetic(t *testing.T) {
	each(func(a api.Rat) {
		expect(t, "negative", rational.Neg(a), new(big.Rat).Neg(value(a)), a)
	})
	pairs(func(a, b api.Rat) {
		expect(t, "sum", rational.Add(a, b), new(big.Rat).Add(value(a), value(b)), a, b)
		expect(t, "difference", rational.Sub(a, b), new(big.Rat).Sub(value(a), value(b)), a, b)
		expect(t, "product", rational.Mul(a, b), new(big.Rat).Mul(value(a), value(b)), a, b)
		q, err := rational.Div(a, b)
		if value(b).Sign() == 0 {
			if err != api.ErrRange || !zero(q) {
				t.Fatal(a, b, q, err)
			}
			return
		}
		if err != api.OK {
			t.Fatal(a, b, err)
		}
		expect(t, "quotient", q, new(big.Rat).Quo(value(a), value(b)), a, b)
	})
}

// P3.3: zeros of all forms are no divisors.
func TestDivideByZero(t *testing.T) {
	for _, b := range []api.Rat{
		{}, {Den: api.Nat{5}}, {Den: api.Nat{0}}, {Num: api.Int{Neg: true}}, {Num: api.Int{Neg: true, Mag: api.Nat{0, 0}}, Den: api.Nat{7, 0}}, {Num: api.Int{Mag: api.Nat{0}}},
	} {
		if q, err := rational.Div(rational.From(3), b); err != api.ErrRange || !zero(q) {
			t.Error(b, q, err)
		}
		if q, err := rational.Make(api.Int{Mag: api.Nat{3}}, b.Num); err != api.ErrRange || !zero(q) {
			t.Error(b, q, err)
		}
	}
}

// P3.4
func TestFloorAndCeil(t *testing.T) {
	each(func(a api.Rat) {
		v := value(a)
		floor, ceil := new(big.Int), new(big.Int)
		floor.Div(v.Num(), v.Denom())
		ceil.Neg(ceil.Div(ceil.Neg(v.Num()), v.Denom()))
		f, c := rational.Floor(a), rational.Ceil(a)
		expect(t, "floor", api.Rat{Num: f}, new(big.Rat).SetInt(floor), a)
		expect(t, "ceiling", api.Rat{Num: c}, new(big.Rat).SetInt(ceil), a)
	})
}

// P3.4
func TestRounding(t *testing.T) {
	for _, x := range [][4]int64{
		{-7, 2, -4, -3}, {7, 2, 3, 4}, {7, -2, -4, -3}, {8, 2, 4, 4}, {-8, 2, -4, -4}, {1, 5, 0, 1}, {-1, 5, -1, 0}, {0, 5, 0, 0},
		{math.MinInt64, math.MaxInt64, -2, -1}, {math.MaxInt64, math.MinInt64, -1, 0}, {math.MinInt64, 1, math.MinInt64, math.MinInt64},
	} {
		a, _ := rational.Frac(x[0], x[1])
		if f := rational.Floor(a); whole(f).Cmp(big.NewInt(x[2])) != 0 {
			t.Error(x, f)
		}
		if c := rational.Ceil(a); whole(c).Cmp(big.NewInt(x[3])) != 0 {
			t.Error(x, c)
		}
	}
}

// The examples of the chapter.
func TestExamples(t *testing.T) {
	sixth, _ := rational.Frac(1, 6)
	third, _ := rational.Frac(1, 3)
	if s := rational.Text(rational.Add(sixth, third)); s != "1/2" {
		t.Error(s)
	}
	half, _ := rational.Frac(-7, 2)
	if f, c := rational.Floor(half), rational.Ceil(half); whole(f).Int64() != -4 || whole(c).Int64() != -3 {
		t.Error(f, c)
	}
	q, err := rational.Div(rational.From(6), rational.From(-4))
	if rational.Text(q) != "-3/2" || err != api.OK {
		t.Error(q, err)
	}
}
