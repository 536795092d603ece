package natural_test

import (
	"slices"
	"testing"

	"exodus/api"
	"exodus/natural"
)

// operation is a function of the package whose results are numbers.
type operation struct {
	name string
	run  func(a, b api.Nat) []api.Nat
}

func operations() []operation {
	return []operation{
		{"From", func(a, b api.Nat) []api.Nat {
			n, _ := natural.Uint(a)
			return []api.Nat{natural.From(n)}
		}},
		{"Add", func(a, b api.Nat) []api.Nat { return []api.Nat{natural.Add(a, b)} }},
		{"Sub", func(a, b api.Nat) []api.Nat {
			d, _ := natural.Sub(a, b)
			return []api.Nat{d}
		}},
		{"Mul", func(a, b api.Nat) []api.Nat { return []api.Nat{natural.Mul(a, b)} }},
		{"DivMod", func(a, b api.Nat) []api.Nat {
			q, r, _ := natural.DivMod(a, b)
			return []api.Nat{q, r}
		}},
		{"Gcd", func(a, b api.Nat) []api.Nat { return []api.Nat{natural.Gcd(a, b)} }},
		{"Parse", func(a, b api.Nat) []api.Nat {
			n, _ := natural.Parse(natural.Text(a))
			return []api.Nat{n}
		}},
	}
}

// memory returns a number with spare capacity, and the memory behind both.
func memory(a api.Nat) (api.Nat, api.Nat) {
	whole := append(slices.Clone(a), 77, 78, 79)
	return whole[:len(a)], whole
}

// overwrite changes everything that can be reached from a number.
func overwrite(a api.Nat) {
	for i := range a[:cap(a)] {
		a[:cap(a)][i] = 0xdeadbeef
	}
}

// copies returns the numbers in other memory.
func copies(list []api.Nat) []api.Nat {
	out := []api.Nat{}
	for _, a := range list {
		out = append(out, slices.Clone(a))
	}
	return out
}

func equal(a, b []api.Nat) bool {
	return slices.EqualFunc(a, b, slices.Equal[api.Nat])
}

// P1.1 and the last sentence of the guarantees: arguments stay as they are, and results have memory of their own.
func TestMemory(t *testing.T) {
	for _, op := range operations() {
		for _, x := range forms() {
			for _, y := range forms() {
				a, wholeA := memory(x)
				b, wholeB := memory(y)
				beforeA, beforeB := slices.Clone(wholeA), slices.Clone(wholeB)
				results := op.run(a, b)
				first := copies(results)
				later := op.run(a, b)
				for i, r := range results {
					overwrite(r)
					if i+1 < len(results) && !slices.Equal(results[i+1], first[i+1]) {
						t.Fatal(op.name, "returns results that share memory", x, y)
					}
				}
				if !slices.Equal(wholeA, beforeA) || !slices.Equal(wholeB, beforeB) {
					t.Fatal(op.name, "changes or returns an argument", x, y)
				}
				if !equal(later, first) || !equal(op.run(a, b), first) {
					t.Fatal(op.name, "keeps its results", x, y)
				}
			}
		}
	}
}

// P1.1: an argument may be passed twice.
func TestSameArgument(t *testing.T) {
	for _, op := range operations() {
		for _, x := range forms() {
			if a := slices.Clone(x); !equal(op.run(a, a), op.run(x, slices.Clone(x))) {
				t.Fatal(op.name, x)
			}
		}
	}
}

// P1.1: only the values of the arguments matter, and all results are valid.
func TestLeadingZeros(t *testing.T) {
	for _, op := range operations() {
		for _, a := range samples() {
			for _, b := range samples() {
				want := op.run(a, b)
				for _, r := range want {
					expect(t, op.name, r, value(r), a, b)
				}
				for zeros := 1; zeros < 4; zeros++ {
					if !equal(op.run(padded(a, zeros), b), want) || !equal(op.run(a, padded(b, zeros)), want) || !equal(op.run(padded(a, zeros), padded(b, 4-zeros)), want) {
						t.Fatal(op.name, a, b, zeros)
					}
				}
			}
		}
	}
}
