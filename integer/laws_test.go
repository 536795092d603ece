package integer_test

import (
	"math/rand"
	"slices"
	"testing"

	"exodus/api"
	"exodus/integer"
)

func same(a, b api.Int) bool {
	return a.Neg == b.Neg && slices.Equal(a.Mag, b.Mag)
}

// P2.6
func TestRing(t *testing.T) {
	add, mul, zero, one := integer.Add, integer.Mul, integer.From(0), integer.From(1)
	r := rand.New(rand.NewSource(3))
	list := samples()
	for i := range 5000 {
		a, b, c := list[i%len(list)], list[i/len(list)%len(list)], random(r, 6)
		for k, sides := range [][2]api.Int{
			{add(a, b), add(b, a)},
			{mul(a, b), mul(b, a)},
			{add(add(a, b), c), add(a, add(b, c))},
			{mul(mul(a, b), c), mul(a, mul(b, c))},
			{mul(a, add(b, c)), add(mul(a, b), mul(a, c))},
			{add(a, zero), a},
			{mul(a, one), a},
			{mul(a, zero), zero},
			{add(a, integer.Neg(a)), zero},
			{integer.Neg(integer.Neg(a)), a},
			{integer.Sub(a, b), add(a, integer.Neg(b))},
		} {
			if !same(sides[0], sides[1]) {
				t.Fatal(k, a, b, c, sides)
			}
		}
	}
}

// magnitude returns the absolute value.
func magnitude(a api.Int) api.Int {
	return api.Int{Mag: a.Mag}
}

// P2.6
func TestRemainders(t *testing.T) {
	pairs(func(a, b api.Int) {
		if integer.Sign(b) == 0 {
			return
		}
		q, r, _ := integer.Quo(a, b)
		f, s, _ := integer.Floor(a, b)
		if integer.Cmp(integer.Add(integer.Mul(q, b), r), a) != 0 || integer.Cmp(integer.Add(integer.Mul(f, b), s), a) != 0 {
			t.Fatal(a, b, q, r, f, s)
		}
		if sign := integer.Sign(r); sign != 0 && sign != integer.Sign(a) {
			t.Fatal(a, b, r)
		}
		if sign := integer.Sign(s); sign != 0 && sign != integer.Sign(b) {
			t.Fatal(a, b, s)
		}
		if integer.Cmp(magnitude(r), magnitude(b)) >= 0 || integer.Cmp(magnitude(s), magnitude(b)) >= 0 {
			t.Fatal(a, b, r, s)
		}
	})
}
