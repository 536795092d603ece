package rational_test

import (
	"math/rand"
	"testing"

	"exodus/api"
	"exodus/integer"
	"exodus/rational"
)

// triples calls check for many triples of valid fractions.
func triples(check func(a, b, c api.Rat)) {
	r := rand.New(rand.NewSource(3))
	list := samples()
	for i := range 4000 {
		check(list[i%len(list)], list[i/len(list)%len(list)], rational.Neg(random(r, 1+i%4)))
	}
}

// P3.6
func TestField(t *testing.T) {
	add, mul, nought, one := rational.Add, rational.Mul, rational.From(0), rational.From(1)
	triples(func(a, b, c api.Rat) {
		for i, sides := range [][2]api.Rat{
			{add(a, b), add(b, a)},
			{mul(a, b), mul(b, a)},
			{add(add(a, b), c), add(a, add(b, c))},
			{mul(mul(a, b), c), mul(a, mul(b, c))},
			{mul(a, add(b, c)), add(mul(a, b), mul(a, c))},
			{add(a, nought), a},
			{mul(a, one), a},
			{add(a, rational.Neg(a)), nought},
			{rational.Sub(a, b), add(a, rational.Neg(b))},
		} {
			if !same(sides[0], sides[1]) {
				t.Fatal(i, a, b, c, sides)
			}
		}
		inverse, err := rational.Div(one, a)
		if rational.Sign(a) == 0 {
			if err != api.ErrRange {
				t.Fatal(a, err)
			}
			return
		}
		quotient, _ := rational.Div(b, a)
		if !same(mul(a, inverse), one) || !same(mul(quotient, a), b) {
			t.Fatal(a, b, inverse, quotient)
		}
	})
}

// P3.6: sums and products agree with the order, and floors and ceilings lie on both sides.
func TestOrder(t *testing.T) {
	cmp := rational.Cmp
	triples(func(a, b, c api.Rat) {
		if cmp(a, b) != -cmp(b, a) || cmp(a, a) != 0 || cmp(a, b) != rational.Sign(rational.Sub(a, b)) {
			t.Fatal(a, b)
		}
		if cmp(rational.Add(a, c), rational.Add(b, c)) != cmp(a, b) {
			t.Fatal("sums", a, b, c)
		}
		if cmp(rational.Mul(a, c), rational.Mul(b, c)) != cmp(a, b)*rational.Sign(c) {
			t.Fatal("products", a, b, c)
		}
		if cmp(a, b) <= 0 && cmp(b, c) <= 0 && cmp(a, c) > 0 {
			t.Fatal("three", a, b, c)
		}
		floor, ceil := rational.Floor(a), rational.Ceil(a)
		width := integer.Sub(ceil, floor)
		if cmp(api.Rat{Num: floor}, a) > 0 || cmp(a, api.Rat{Num: ceil}) > 0 || integer.Cmp(width, integer.From(1)) > 0 || (integer.Sign(width) == 0) != (len(a.Den) == 0) {
			t.Fatal("rounding", a, floor, ceil)
		}
	})
}

// P3.6: all ways to the same value end in the same digits.
func TestEqualValues(t *testing.T) {
	pairs(func(a, b api.Rat) {
		x, y := rational.Add(a, rational.From(0)), rational.Mul(b, rational.From(1))
		if same(x, y) != (value(a).Cmp(value(b)) == 0) || (rational.Cmp(x, y) == 0) != same(x, y) || (rational.Text(a) == rational.Text(b)) != same(x, y) {
			t.Fatal(a, b, x, y)
		}
		if made, err := rational.Make(a.Num, api.Int{Mag: a.Den}); err == api.OK && !same(made, x) {
			t.Fatal(a, made, x)
		}
	})
}
