package rational_test

import (
	"slices"
	"testing"

	"exodus/api"
	"exodus/rational"
)

// operation is a function of the package whose result is a fraction, or an integer, which counts as one here.
type operation struct {
	name string
	run  func(a, b api.Rat) api.Rat
}

func operations() []operation {
	return []operation{
		{"Make", func(a, b api.Rat) api.Rat {
			q, _ := rational.Make(a.Num, b.Num)
			return q
		}},
		{"From", func(a, b api.Rat) api.Rat {
			n, _ := rational.Int64(a)
			return rational.From(n)
		}},
		{"Frac", func(a, b api.Rat) api.Rat {
			n, _ := rational.Int64(a)
			d, _ := rational.Int64(b)
			q, _ := rational.Frac(n, d)
			return q
		}},
		{"Neg", func(a, b api.Rat) api.Rat { return rational.Neg(a) }},
		{"Add", rational.Add},
		{"Sub", rational.Sub},
		{"Mul", rational.Mul},
		{"Div", func(a, b api.Rat) api.Rat {
			q, _ := rational.Div(a, b)
			return q
		}},
		{"Floor", func(a, b api.Rat) api.Rat { return api.Rat{Num: rational.Floor(a)} }},
		{"Ceil", func(a, b api.Rat) api.Rat { return api.Rat{Num: rational.Ceil(a)} }},
		{"Parse", func(a, b api.Rat) api.Rat {
			q, _ := rational.Parse(rational.Text(a))
			return q
		}},
		{"Sign, Cmp and Valid", func(a, b api.Rat) api.Rat {
			n := rational.Sign(a) + 10*rational.Cmp(a, b)
			if rational.Valid(a) {
				n += 100
			}
			return rational.From(int64(n))
		}},
	}
}

// memory returns a fraction whose digits have spare capacity, and the memory behind them.
func memory(a api.Rat) (api.Rat, [2]api.Nat) {
	num := append(slices.Clone(a.Num.Mag), 77, 78, 79)
	den := append(slices.Clone(a.Den), 87, 88, 89)
	return api.Rat{Num: api.Int{Neg: a.Num.Neg, Mag: num[:len(a.Num.Mag)]}, Den: den[:len(a.Den)]}, [2]api.Nat{num, den}
}

// copied returns a fraction in other memory.
func copied(a api.Rat) api.Rat {
	return api.Rat{Num: api.Int{Neg: a.Num.Neg, Mag: slices.Clone(a.Num.Mag)}, Den: slices.Clone(a.Den)}
}

// overwrite changes everything that can be reached from a number.
func overwrite(a api.Nat) {
	for i := range a[:cap(a)] {
		a[:cap(a)][i] = 0xdeadbeef
	}
}

// unchanged reports whether two lists of digits are as they were.
func unchanged(now, before [2]api.Nat) bool {
	return slices.Equal(now[0], before[0]) && slices.Equal(now[1], before[1])
}

// P3.1 and the last sentence of the guarantees: arguments stay as they are, and results have memory of their own.
func TestMemory(t *testing.T) {
	for _, op := range operations() {
		for _, x := range forms() {
			for _, y := range forms() {
				a, wholeA := memory(x)
				b, wholeB := memory(y)
				_, beforeA := memory(x)
				_, beforeB := memory(y)
				result := op.run(a, b)
				first := copied(result)
				later := op.run(a, b)
				overwrite(result.Num.Mag)
				if !slices.Equal(result.Den, first.Den) {
					t.Fatal(op.name, "returns numbers that share memory", x, y)
				}
				overwrite(result.Den)
				if !unchanged(wholeA, beforeA) || !unchanged(wholeB, beforeB) {
					t.Fatal(op.name, "changes or returns an argument", x, y)
				}
				if !same(later, first) || !same(op.run(a, b), first) {
					t.Fatal(op.name, "keeps its results", x, y)
				}
			}
		}
	}
}

// P3.1: an argument may be passed twice.
func TestSameArgument(t *testing.T) {
	for _, op := range operations() {
		for _, x := range forms() {
			if a := copied(x); !same(op.run(a, a), op.run(x, copied(x))) {
				t.Fatal(op.name, x)
			}
		}
	}
}

// lowered returns the valid fraction of a value, without asking the package.
func lowered(a api.Rat) api.Rat {
	v := value(a)
	den := digits(v.Denom().Bytes())
	if v.IsInt() {
		den = nil
	}
	return api.Rat{Num: api.Int{Neg: v.Sign() < 0, Mag: digits(v.Num().Bytes())}, Den: den}
}

// digits returns the number with the given bytes, the most significant first.
func digits(list []byte) api.Nat {
	n := make(api.Nat, (len(list)+3)/4)
	for i, b := range list {
		place := len(list) - 1 - i
		n[place/4] |= uint32(b) << (8 * (place % 4))
	}
	return n
}

// P3.1: only the values of the arguments matter, and all results are valid. (Make takes integers, Valid asks for the form.)
func TestForms(t *testing.T) {
	for _, op := range operations() {
		for _, a := range forms() {
			for _, b := range forms() {
				got := op.run(a, b)
				expect(t, op.name, got, value(got), a, b)
				if op.name == "Make" || op.name == "Sign, Cmp and Valid" {
					continue
				}
				if want := op.run(lowered(a), lowered(b)); !same(got, want) {
					t.Fatal(op.name, a, b, got, want)
				}
			}
		}
	}
}
