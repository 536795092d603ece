package duality_test

import (
	"math"
	"math/big"
	"math/rand"
	"slices"

	"exodus/api"
	"exodus/rational"
)

// frac returns a fraction of two numbers.
func frac(a, b int64) api.Rat {
	q, _ := rational.Frac(a, b)
	return q
}

// list returns integers as fractions.
func list(numbers ...int64) []api.Rat {
	out := []api.Rat{}
	for _, n := range numbers {
		out = append(out, rational.From(n))
	}
	return out
}

// odd returns a fraction that is not valid, with the value num / den.
func odd(num int64, den uint32) api.Rat {
	return api.Rat{Num: api.Int{Neg: num < 0, Mag: api.Nat{uint32(max(num, -num)), 0}}, Den: api.Nat{den, 0}}
}

// row returns a row with the given coefficients of the variables 0, 1 and so on.
func row(kind int, bound int64, coefs ...int64) api.Row {
	line := api.Row{Kind: kind, Bound: bound}
	for i, coef := range coefs {
		if coef != 0 {
			line.Terms = append(line.Terms, api.Term{Var: i, Coef: coef})
		}
	}
	return line
}

// example returns the program of the example of layer 5.
func example() api.Program {
	return api.Program{Vars: []api.Var{{Upper: 3, Cost: -1}, {Upper: 3, Cost: -2}}, Rows: []api.Row{row(api.Le, 4, 1, 1)}}
}

// cone returns a program whose cost has no bound along (1, 1).
func cone() api.Program {
	vars := []api.Var{{Open: true, Cost: -3}, {Lower: -2, Open: true, Cost: 2}, {Lower: 1, Upper: 4}}
	return api.Program{Vars: vars, Rows: []api.Row{row(api.Le, 1, 1, -1), row(api.Ge, -3, -2, 2, 1), row(api.Eq, 0)}}
}

// random returns a random valid program of few variables and rows.
func random(r *rand.Rand) api.Program {
	p := api.Program{}
	number := func() int64 { return r.Int63n(9) - 4 }
	for range r.Intn(5) {
		v := api.Var{Lower: number(), Open: r.Intn(3) == 0, Integer: r.Intn(2) == 0, Cost: number()}
		if !v.Open {
			v.Upper = v.Lower + r.Int63n(8) - 1
		}
		p.Vars = append(p.Vars, v)
	}
	for range r.Intn(6) {
		coefs := []int64{}
		for range p.Vars {
			coefs = append(coefs, number()*r.Int63n(2))
		}
		p.Rows = append(p.Rows, row(r.Intn(7)/3, number()*2, coefs...))
	}
	return p
}

// fractions returns about n fractions, some of them not valid; many are 0.
func fractions(r *rand.Rand, n int) []api.Rat {
	out := []api.Rat{}
	for range max(0, n+r.Intn(9)/3-1) {
		switch r.Intn(6) {
		case 0:
			out = append(out, odd(r.Int63n(9)-4, uint32(r.Intn(4))))
		case 1, 2:
			out = append(out, frac(r.Int63n(9)-4, 1+r.Int63n(3)))
		case 3:
			out = append(out, rational.From(r.Int63n(5)-1))
		default:
			out = append(out, api.Rat{})
		}
	}
	return out
}

// programs calls check for many valid programs.
func programs(count int, check func(r *rand.Rand, p api.Program)) {
	r := rand.New(rand.NewSource(1))
	for range count {
		check(r, random(r))
	}
}

// broken returns programs that are not valid, but have the proofs of the example, of the program with nothing, or of the cone in many ways.
func broken() []api.Program {
	out := []api.Program{{Rows: make([]api.Row, api.MaxRows+1)}, {Vars: make([]api.Var, api.MaxVars+1)}}
	for _, change := range []func(p *api.Program){
		func(p *api.Program) { p.Rows[0].Kind = 3 },
		func(p *api.Program) { p.Rows[0].Group = -1 },
		func(p *api.Program) { p.Rows[0].Name = "\x7f" },
		func(p *api.Program) { p.Rows[0].Terms = append(p.Rows[0].Terms, api.Term{Var: 3, Coef: 1}) },
		func(p *api.Program) { p.Vars[0].Cost = -1<<40 - 1 },
		func(p *api.Program) { p.Rows[0].Bound = math.MaxInt64 },
		func(p *api.Program) { p.Vars = append(p.Vars, api.Var{Upper: 1, Open: true}) },
		func(p *api.Program) { p.Vars = append(p.Vars, api.Var{Lower: math.MaxInt64, Upper: math.MinInt64}) },
	} {
		for _, p := range []api.Program{example(), cone()} {
			change(&p)
			out = append(out, p)
		}
	}
	return out
}

// natural returns the value of a list of digits.
func natural(digits api.Nat) *big.Int {
	v := new(big.Int)
	for _, d := range slices.Backward(digits) {
		v.Lsh(v, 32)
		v.Or(v, big.NewInt(int64(d)))
	}
	return v
}

// value returns the value of a fraction, which may be not valid.
func value(a api.Rat) *big.Rat {
	num, den := natural(a.Num.Mag), natural(a.Den)
	if a.Num.Neg {
		num.Neg(num)
	}
	if den.Sign() == 0 {
		den.SetInt64(1)
	}
	return new(big.Rat).SetFrac(num, den)
}

// values returns the values of exactly n fractions: lists that are too short are continued with zeros.
func values(fractions []api.Rat, n int) []*big.Rat {
	out := []*big.Rat{}
	for i := range n {
		if i < len(fractions) {
			out = append(out, value(fractions[i]))
		} else {
			out = append(out, new(big.Rat))
		}
	}
	return out
}

// times returns a product.
func times(a *big.Rat, n int64) *big.Rat {
	return new(big.Rat).Mul(a, new(big.Rat).SetInt64(n))
}

// sum returns the sum of terms at a point.
func sum(terms []api.Term, x []*big.Rat) *big.Rat {
	total := new(big.Rat)
	for _, term := range terms {
		total.Add(total, times(x[term.Var], term.Coef))
	}
	return total
}

// cost returns the cost of a point.
func cost(p api.Program, x []*big.Rat) *big.Rat {
	total := new(big.Rat)
	for i, v := range p.Vars {
		total.Add(total, times(x[i], v.Cost))
	}
	return total
}

// holds reports whether a relation holds for the comparison of both sides.
func holds(kind, order int) bool {
	return order == 0 || kind == api.Le && order < 0 || kind == api.Ge && order > 0
}

// feasible reports whether a point is within the bounds and violates no row.
func feasible(p api.Program, x []*big.Rat) bool {
	number := func(n int64) *big.Rat { return new(big.Rat).SetInt64(n) }
	for i, v := range p.Vars {
		if x[i].Cmp(number(v.Lower)) < 0 || !v.Open && x[i].Cmp(number(v.Upper)) > 0 {
			return false
		}
	}
	for _, line := range p.Rows {
		if !holds(line.Kind, sum(line.Terms, x).Cmp(number(line.Bound))) {
			return false
		}
	}
	return true
}

// bound returns the bound that multipliers prove for costs that are multiplied by factor, or nil.
func bound(p api.Program, fractions []api.Rat, factor int64) *big.Rat {
	y, total, rest := values(fractions, len(p.Rows)), new(big.Rat), []*big.Rat{}
	for _, v := range p.Vars {
		rest = append(rest, new(big.Rat).SetInt64(v.Cost*factor))
	}
	for i, line := range p.Rows {
		if line.Kind == api.Le && y[i].Sign() > 0 || line.Kind == api.Ge && y[i].Sign() < 0 {
			return nil
		}
		total.Add(total, times(y[i], line.Bound))
		for _, term := range line.Terms {
			rest[term.Var].Sub(rest[term.Var], times(y[i], term.Coef))
		}
	}
	for i, v := range p.Vars {
		switch {
		case v.Open && rest[i].Sign() < 0 || !v.Open && v.Lower > v.Upper:
			return nil
		case rest[i].Sign() < 0:
			total.Add(total, times(rest[i], v.Upper))
		default:
			total.Add(total, times(rest[i], v.Lower))
		}
	}
	return total
}

// optimal reports whether a point and multipliers prove the optimum.
func optimal(p api.Program, x, y []api.Rat) bool {
	point, least := values(x, len(p.Vars)), bound(p, y, 1)
	return feasible(p, point) && least != nil && least.Cmp(cost(p, point)) == 0
}

// infeasible reports whether multipliers prove infeasibility.
func infeasible(p api.Program, y []api.Rat) bool {
	for i, a := range values(y, len(p.Rows)) {
		if p.Rows[i].Kind == api.Le && a.Sign() > 0 || p.Rows[i].Kind == api.Ge && a.Sign() < 0 {
			return false
		}
	}
	least := bound(p, y, 0)
	return least != nil && least.Sign() > 0 || slices.ContainsFunc(p.Vars, func(v api.Var) bool { return !v.Open && v.Lower > v.Upper })
}

// unbounded reports whether a point and a ray prove unboundedness.
func unbounded(p api.Program, x, ray []api.Rat) bool {
	way := values(ray, len(p.Vars))
	for i, v := range p.Vars {
		if way[i].Sign() < 0 || way[i].Sign() > 0 && !v.Open {
			return false
		}
	}
	for _, line := range p.Rows {
		if !holds(line.Kind, sum(line.Terms, way).Sign()) {
			return false
		}
	}
	return feasible(p, values(x, len(p.Vars))) && cost(p, way).Sign() < 0
}
