package simplex_test

import (
	"math/big"
	"math/rand"
	"slices"
	"testing"

	"exodus/api"
	"exodus/rational"
	"exodus/simplex"
)

// terms returns terms with the given coefficients of the variables 0, 1 and so on; those that are 0 are left out.
func terms(coefs ...int64) []api.Term {
	list := []api.Term{}
	for i, coef := range coefs {
		if coef != 0 {
			list = append(list, api.Term{Var: i, Coef: coef})
		}
	}
	return list
}

// row returns a row.
func row(kind int, bound int64, coefs ...int64) api.Row {
	return api.Row{Kind: kind, Bound: bound, Terms: terms(coefs...)}
}

// open returns open variables from 0 on with the given costs.
func open(costs ...int64) []api.Var {
	list := []api.Var{}
	for _, cost := range costs {
		list = append(list, api.Var{Open: true, Cost: cost})
	}
	return list
}

// box returns variables from 0 to upper with the given costs.
func box(upper int64, costs ...int64) []api.Var {
	list := []api.Var{}
	for _, cost := range costs {
		list = append(list, api.Var{Upper: upper, Cost: cost})
	}
	return list
}

// example returns the program of the chapter's example.
func example() api.Program {
	return api.Program{Vars: box(3, -1, -2), Rows: []api.Row{row(api.Le, 4, 1, 1)}}
}

// shape describes random programs.
type shape struct {
	vars, rows int
	size       int64 // of the coefficients and costs
	dense      int   // how many of ten coefficients are not 0
	open       int   // how many of ten variables are open
}

// random returns a random program of a shape.
func (s shape) random(r *rand.Rand) api.Program {
	number := func() int64 { return r.Int63n(2*s.size+1) - s.size }
	p := api.Program{}
	for range s.vars {
		v := api.Var{Lower: -r.Int63n(4), Cost: number(), Integer: r.Intn(2) == 0}
		if r.Intn(10) < s.open {
			v.Open = true
		} else {
			v.Upper = v.Lower + r.Int63n(7)
		}
		p.Vars = append(p.Vars, v)
	}
	for range s.rows {
		line := api.Row{Name: "row", Group: r.Intn(3), Kind: r.Intn(7) / 3}
		for i, v := range p.Vars {
			if r.Intn(10) < s.dense {
				coef := number() | 1
				line.Terms = append(line.Terms, api.Term{Var: i, Coef: coef})
				// Most rows are near a point that is within the bounds, so that many programs have one.
				line.Bound += coef * (v.Lower + int64(i%2))
			}
		}
		line.Bound += r.Int63n(3) - 1
		p.Rows = append(p.Rows, line)
	}
	return p
}

// programs calls check for many programs of few variables and rows.
func programs(count int, check func(r *rand.Rand, p api.Program)) {
	r := rand.New(rand.NewSource(1))
	for i := range count {
		size := []int64{1, 2, 9, 1000, 1 << 35}[i%5]
		check(r, shape{r.Intn(6), r.Intn(8), size, 3 + r.Intn(8), r.Intn(6)}.random(r))
	}
}

// natural returns the value of a list of digits.
func natural(digits api.Nat) *big.Int {
	v := new(big.Int)
	for _, d := range slices.Backward(digits) {
		v.Lsh(v, 32)
		v.Or(v, big.NewInt(int64(d)))
	}
	return v
}

// value returns the value of a valid fraction.
func value(a api.Rat) *big.Rat {
	num, den := natural(a.Num.Mag), big.NewInt(1)
	if a.Num.Neg {
		num.Neg(num)
	}
	if len(a.Den) > 0 {
		den = natural(a.Den)
	}
	return new(big.Rat).SetFrac(num, den)
}

// whole returns a number as a fraction.
func whole(n int64) *big.Rat {
	return new(big.Rat).SetInt64(n)
}

// times returns a product.
func times(a *big.Rat, n int64) *big.Rat {
	return new(big.Rat).Mul(a, whole(n))
}

// values returns the values of fractions.
func values(list []api.Rat) []*big.Rat {
	out := []*big.Rat{}
	for _, a := range list {
		out = append(out, value(a))
	}
	return out
}

// sum returns the sum of terms at a point.
func sum(list []api.Term, x []*big.Rat) *big.Rat {
	total := new(big.Rat)
	for _, term := range list {
		total.Add(total, times(x[term.Var], term.Coef))
	}
	return total
}

// cost returns the cost of a point.
func cost(p api.Program, x []*big.Rat) *big.Rat {
	total := new(big.Rat)
	for i, v := range p.Vars {
		total.Add(total, times(x[i], v.Cost))
	}
	return total
}

// holds reports whether a relation holds for the comparison of both sides.
func holds(kind, order int) bool {
	return order == 0 || kind == api.Le && order < 0 || kind == api.Ge && order > 0
}

// feasible reports whether a point is within the bounds and violates no row.
func feasible(p api.Program, x []*big.Rat) bool {
	for i, v := range p.Vars {
		if x[i].Cmp(whole(v.Lower)) < 0 || !v.Open && x[i].Cmp(whole(v.Upper)) > 0 {
			return false
		}
	}
	for _, line := range p.Rows {
		if !holds(line.Kind, sum(line.Terms, x).Cmp(whole(line.Bound))) {
			return false
		}
	}
	return true
}

// signed reports whether multipliers have the right signs.
func signed(p api.Program, y []*big.Rat) bool {
	for i, line := range p.Rows {
		if line.Kind == api.Le && y[i].Sign() > 0 || line.Kind == api.Ge && y[i].Sign() < 0 {
			return false
		}
	}
	return true
}

// bound returns the bound that multipliers prove for costs that are multiplied by factor, or nil.
func bound(p api.Program, y []*big.Rat, factor int64) *big.Rat {
	total, rest := new(big.Rat), []*big.Rat{}
	for _, v := range p.Vars {
		rest = append(rest, whole(v.Cost*factor))
	}
	for i, line := range p.Rows {
		total.Add(total, times(y[i], line.Bound))
		for _, term := range line.Terms {
			rest[term.Var].Sub(rest[term.Var], times(y[i], term.Coef))
		}
	}
	for i, v := range p.Vars {
		switch {
		case v.Open && rest[i].Sign() < 0 || !v.Open && v.Lower > v.Upper:
			return nil
		case rest[i].Sign() < 0:
			total.Add(total, times(rest[i], v.Upper))
		default:
			total.Add(total, times(rest[i], v.Lower))
		}
	}
	return total
}

// proved reports whether an outcome is proved, as the chapter defines it.
func proved(p api.Program, o api.Outcome) bool {
	n, m := len(p.Vars), len(p.Rows)
	sizes := [][3]int{api.Optimal: {n, m, 0}, api.Infeasible: {0, m, 0}, api.Unbounded: {n, 0, n}}[o.Kind]
	if len(o.Point) != sizes[0] || len(o.Multipliers) != sizes[1] || len(o.Ray) != sizes[2] {
		return false
	}
	x, y, ray := values(o.Point), values(o.Multipliers), values(o.Ray)
	switch o.Kind {
	case api.Optimal:
		least := bound(p, y, 1)
		return feasible(p, x) && signed(p, y) && least != nil && least.Cmp(cost(p, x)) == 0 && least.Cmp(value(o.Value)) == 0
	case api.Infeasible:
		if !signed(p, y) || value(o.Value).Sign() != 0 {
			return false
		}
		least := bound(p, y, 0)
		return least != nil && least.Sign() > 0 || slices.ContainsFunc(p.Vars, func(v api.Var) bool { return !v.Open && v.Lower > v.Upper })
	}
	return feasible(p, x) && value(o.Value).Sign() == 0 && endless(p, ray) && cost(p, ray).Sign() < 0
}

// endless reports whether one can go in a direction for ever.
func endless(p api.Program, ray []*big.Rat) bool {
	for i, v := range p.Vars {
		if ray[i].Sign() < 0 || ray[i].Sign() > 0 && !v.Open {
			return false
		}
	}
	for _, line := range p.Rows {
		if !holds(line.Kind, sum(line.Terms, ray).Sign()) {
			return false
		}
	}
	return true
}

// solved returns the outcome of a valid program, and fails unless it is proved and has valid fractions.
func solved(t *testing.T, p api.Program) api.Outcome {
	t.Helper()
	o, err := simplex.Solve(p)
	if err != api.OK || !proved(p, o) {
		t.Fatal("not proved:", p, o, err)
	}
	for _, list := range [][]api.Rat{{o.Value}, o.Point, o.Multipliers, o.Ray} {
		for _, a := range list {
			if !rational.Valid(a) {
				t.Fatal("not valid:", p, a)
			}
		}
	}
	return o
}

// texts returns the texts of fractions.
func texts(list []api.Rat) []string {
	out := []string{}
	for _, a := range list {
		out = append(out, rational.Text(a))
	}
	return out
}
