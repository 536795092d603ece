package linear_test

import (
	"math"
	"math/big"
	"math/rand"
	"slices"
	"testing"

	"exodus/api"
	"exodus/rational"
)

// frac returns a fraction of two numbers.
func frac(a, b int64) api.Rat {
	q, _ := rational.Frac(a, b)
	return q
}

// point returns a list of integers as fractions.
func point(numbers ...int64) []api.Rat {
	list := []api.Rat{}
	for _, n := range numbers {
		list = append(list, rational.From(n))
	}
	return list
}

// odd returns fractions that are not valid; their values are 3, 3/2, -2, 0, 0 and -1/2.
func odd() []api.Rat {
	return []api.Rat{
		{Num: api.Int{Mag: api.Nat{3}}, Den: api.Nat{0}},
		{Num: api.Int{Mag: api.Nat{6, 0}}, Den: api.Nat{4}},
		{Num: api.Int{Neg: true, Mag: api.Nat{2}}, Den: api.Nat{1}},
		{Num: api.Int{Neg: true}, Den: api.Nat{5}},
		{Num: api.Int{Neg: true, Mag: api.Nat{0}}, Den: api.Nat{0, 0}},
		{Num: api.Int{Neg: true, Mag: api.Nat{1}}, Den: api.Nat{2, 0}},
	}
}

// number returns one of the numbers that valid programs contain.
func number(r *rand.Rand) int64 {
	few := []int64{-api.MaxCoef, -7, -3, -2, -1, 0, 0, 1, 2, 3, 7, api.MaxCoef, r.Int63n(1000) - 500}
	return few[r.Intn(len(few))]
}

// randomPoint returns a point that may be too short or too long for n variables, with fractions of which some are not valid.
func randomPoint(r *rand.Rand, n int) []api.Rat {
	x := make([]api.Rat, max(0, n+r.Intn(5)-2))
	for i := range x {
		switch r.Intn(4) {
		case 0:
			x[i] = odd()[r.Intn(6)]
		case 1:
			x[i] = frac(r.Int63n(41)-20, r.Int63n(6)+1)
		case 2:
			x[i] = rational.From(r.Int63n(9) - 4)
		}
	}
	return x
}

// randomProgram returns a program of a few variables and rows, which is valid unless broken is set: then terms may name variables that do not exist or name one twice, and Kind, Group and the numbers may be any.
func randomProgram(r *rand.Rand, broken bool) api.Program {
	p := api.Program{}
	for range r.Intn(5) {
		v := api.Var{Lower: number(r), Upper: number(r), Open: r.Intn(4) == 0, Integer: r.Intn(2) == 0, Cost: number(r)}
		if r.Intn(3) > 0 {
			v.Lower, v.Upper = -r.Int63n(5), r.Int63n(5)
		}
		if v.Open && !broken {
			v.Upper = 0
		}
		p.Vars = append(p.Vars, v)
	}
	for range r.Intn(5) {
		row := api.Row{Name: "row", Group: r.Intn(4) * r.Intn(21), Kind: r.Intn(3), Bound: number(r)}
		for i := range p.Vars {
			if coef := number(r); coef != 0 && r.Intn(3) > 0 {
				row.Terms = append(row.Terms, api.Term{Var: i, Coef: coef})
			}
		}
		if broken {
			spoil(r, &row, len(p.Vars))
		}
		p.Rows = append(p.Rows, row)
	}
	return p
}

// spoil changes a row of a program with n variables to one that is hardly valid.
func spoil(r *rand.Rand, row *api.Row, n int) {
	for range 1 + r.Intn(3) {
		coefs := []int64{0, 1, -5, math.MaxInt64, math.MinInt64}
		row.Terms = append(row.Terms, api.Term{Var: r.Intn(n+6) - 3, Coef: coefs[r.Intn(len(coefs))]})
	}
	row.Kind = []int{-1, 0, 1, 2, 3, math.MaxInt, math.MinInt}[r.Intn(7)]
	row.Group = []int{-2, 0, 5, 61, math.MaxInt, math.MinInt}[r.Intn(6)]
	row.Bound = []int64{row.Bound, math.MaxInt64, math.MinInt64}[r.Intn(3)]
}

// programs calls check for many programs, each with a random source for points and multipliers.
func programs(check func(r *rand.Rand, p api.Program)) {
	r := rand.New(rand.NewSource(1))
	for i := range 4000 {
		check(r, randomProgram(r, i%3 == 0))
	}
}

// natural returns the value of a list of digits.
func natural(digits api.Nat) *big.Int {
	v := new(big.Int)
	for _, d := range slices.Backward(digits) {
		v.Lsh(v, 32)
		v.Or(v, big.NewInt(int64(d)))
	}
	return v
}

// value returns the value of a fraction.
func value(a api.Rat) *big.Rat {
	num, den := natural(a.Num.Mag), natural(a.Den)
	if a.Num.Neg {
		num.Neg(num)
	}
	if den.Sign() == 0 {
		den.SetInt64(1)
	}
	return new(big.Rat).SetFrac(num, den)
}

// whole returns a number as a fraction.
func whole(n int64) *big.Rat {
	return new(big.Rat).SetInt64(n)
}

// values returns the values of exactly n elements: a list that is too short is continued with zeros, and elements that are too many are left out.
func values(list []api.Rat, n int) []*big.Rat {
	out := []*big.Rat{}
	for i := range n {
		if i < len(list) {
			out = append(out, value(list[i]))
		} else {
			out = append(out, new(big.Rat))
		}
	}
	return out
}

// plain returns the sum of terms at a point; terms of variables that are not there count as 0.
func plain(terms []api.Term, x []*big.Rat) *big.Rat {
	total := new(big.Rat)
	for _, term := range terms {
		if term.Var >= 0 && term.Var < len(x) {
			total.Add(total, new(big.Rat).Mul(whole(term.Coef), x[term.Var]))
		}
	}
	return total
}

// expect fails unless got is valid and has the value want.
func expect(t *testing.T, name string, got api.Rat, want *big.Rat, arguments ...any) {
	t.Helper()
	if !rational.Valid(got) || value(got).Cmp(want) != 0 {
		t.Fatal(name, "is", got, "instead of", want, arguments)
	}
}

// example returns the program of the chapter's example.
func example() api.Program {
	return api.Program{
		Vars: []api.Var{{Upper: 3, Cost: 2}, {Lower: 1, Open: true, Cost: -1}},
		Rows: []api.Row{{Name: "r", Group: 4, Kind: api.Le, Terms: []api.Term{{Var: 0, Coef: 1}, {Var: 1, Coef: -2}}, Bound: -2}},
	}
}
