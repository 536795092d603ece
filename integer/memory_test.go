package integer_test

import (
	"slices"
	"testing"

	"exodus/api"
	"exodus/integer"
)

// operation is a function of the package whose results are integers.
type operation struct {
	name string
	run  func(a, b api.Int) []api.Int
}

func operations() []operation {
	return []operation{
		{"From", func(a, b api.Int) []api.Int {
			n, _ := integer.Int64(a)
			return []api.Int{integer.From(n)}
		}},
		{"Neg", func(a, b api.Int) []api.Int { return []api.Int{integer.Neg(a)} }},
		{"Add", func(a, b api.Int) []api.Int { return []api.Int{integer.Add(a, b)} }},
		{"Sub", func(a, b api.Int) []api.Int { return []api.Int{integer.Sub(a, b)} }},
		{"Mul", func(a, b api.Int) []api.Int { return []api.Int{integer.Mul(a, b)} }},
		{"Quo", func(a, b api.Int) []api.Int {
			q, r, _ := integer.Quo(a, b)
			return []api.Int{q, r}
		}},
		{"Floor", func(a, b api.Int) []api.Int {
			q, r, _ := integer.Floor(a, b)
			return []api.Int{q, r}
		}},
		{"Parse", func(a, b api.Int) []api.Int {
			n, _ := integer.Parse(integer.Text(a))
			return []api.Int{n}
		}},
	}
}

// memory returns an integer whose magnitude has spare capacity, and the memory behind it.
func memory(a api.Int) (api.Int, api.Nat) {
	whole := append(slices.Clone(a.Mag), 77, 78, 79)
	return api.Int{Neg: a.Neg, Mag: whole[:len(a.Mag)]}, whole
}

// overwrite changes everything that can be reached from a number.
func overwrite(a api.Nat) {
	for i := range a[:cap(a)] {
		a[:cap(a)][i] = 0xdeadbeef
	}
}

// copies returns the integers in other memory.
func copies(list []api.Int) []api.Int {
	out := []api.Int{}
	for _, a := range list {
		out = append(out, api.Int{Neg: a.Neg, Mag: slices.Clone(a.Mag)})
	}
	return out
}

func equal(a, b []api.Int) bool {
	return slices.EqualFunc(a, b, same)
}

// P2.1 and the last sentence of the guarantees: arguments stay as they are, and results have memory of their own.
func TestMemory(t *testing.T) {
	for _, op := range operations() {
		for _, x := range forms() {
			for _, y := range forms() {
				a, wholeA := memory(x)
				b, wholeB := memory(y)
				beforeA, beforeB := slices.Clone(wholeA), slices.Clone(wholeB)
				results := op.run(a, b)
				first := copies(results)
				later := op.run(a, b)
				for i, r := range results {
					overwrite(r.Mag)
					if i+1 < len(results) && !same(results[i+1], first[i+1]) {
						t.Fatal(op.name, "returns results that share memory", x, y)
					}
				}
				if !slices.Equal(wholeA, beforeA) || !slices.Equal(wholeB, beforeB) {
					t.Fatal(op.name, "changes or returns an argument", x, y)
				}
				if !equal(later, first) || !equal(op.run(a, b), first) {
					t.Fatal(op.name, "keeps its results", x, y)
				}
			}
		}
	}
}

// P2.1: only the values of the arguments matter, and all results are valid; a zero may have Neg set.
func TestForms(t *testing.T) {
	for _, op := range operations() {
		for _, a := range forms() {
			for _, b := range forms() {
				got := op.run(a, b)
				for _, r := range got {
					expect(t, op.name, r, value(r), a, b)
				}
				if want := op.run(valid(a), valid(b)); !equal(got, want) {
					t.Fatal(op.name, a, b, got, want)
				}
			}
		}
	}
}

// valid returns the valid integer of the same value.
func valid(a api.Int) api.Int {
	n := len(a.Mag)
	for n > 0 && a.Mag[n-1] == 0 {
		n--
	}
	return api.Int{Neg: a.Neg && n > 0, Mag: a.Mag[:n]}
}
