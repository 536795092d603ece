package natural_test

import (
	"math/rand"
	"slices"
	"testing"

	"exodus/api"
	"exodus/natural"
)

// triples calls check for many triples of numbers.
func triples(check func(a, b, c api.Nat)) {
	list := samples()
	for i, a := range list {
		for j, b := range list {
			check(a, b, list[(3*i+5*j)%len(list)])
		}
	}
	r := rand.New(rand.NewSource(3))
	for range 2000 {
		check(random(r, 9), random(r, 9), random(r, 9))
	}
}

// P1.7
func TestLawsOfAddAndMul(t *testing.T) {
	add, mul := natural.Add, natural.Mul
	triples(func(a, b, c api.Nat) {
		for i, sides := range [][2]api.Nat{
			{add(a, b), add(b, a)},
			{mul(a, b), mul(b, a)},
			{add(add(a, b), c), add(a, add(b, c))},
			{mul(mul(a, b), c), mul(a, mul(b, c))},
			{mul(a, add(b, c)), add(mul(a, b), mul(a, c))},
		} {
			if !slices.Equal(sides[0], sides[1]) {
				t.Fatal(i, a, b, c, sides)
			}
		}
		difference, err := natural.Sub(add(a, b), b)
		if err != api.OK || natural.Cmp(difference, a) != 0 {
			t.Fatal(a, b, difference, err)
		}
	})
}

// P1.7
func TestLawsOfGcd(t *testing.T) {
	triples(func(a, b, c api.Nat) {
		a, b = natural.Mul(a, c), natural.Mul(b, c)
		g := natural.Gcd(a, b)
		if len(g) == 0 {
			return
		}
		p, r, _ := natural.DivMod(a, g)
		q, s, _ := natural.DivMod(b, g)
		if len(r) != 0 || len(s) != 0 || !slices.Equal(natural.Gcd(p, q), api.Nat{1}) {
			t.Fatal(a, b, g)
		}
	})
}
