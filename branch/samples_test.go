package branch_test

import (
	"math/big"
	"math/rand"
	"slices"
	"testing"

	"exodus/api"
	"exodus/branch"
	"exodus/cuts"
	"exodus/linear"
	"exodus/rational"
)

// row returns a row with the given coefficients of the variables 0, 1 and so on.
func row(kind int, bound int64, coefs ...int64) api.Row {
	line := api.Row{Name: "row", Group: 3, Kind: kind, Bound: bound}
	for i, coef := range coefs {
		if coef != 0 {
			line.Terms = append(line.Terms, api.Term{Var: i, Coef: coef})
		}
	}
	return line
}

// box returns Integer variables with the same bounds and the given costs.
func box(lower, upper int64, costs ...int64) []api.Var {
	vars := []api.Var{}
	for _, cost := range costs {
		vars = append(vars, api.Var{Lower: lower, Upper: upper, Integer: true, Cost: cost})
	}
	return vars
}

// bits returns binary variables with the given costs.
func bits(costs ...int64) []api.Var {
	return box(0, 1, costs...)
}

// program returns a program.
func program(vars []api.Var, rows ...api.Row) api.Program {
	return api.Program{Vars: vars, Rows: rows}
}

// example returns the program of the chapter's example.
func example() api.Program {
	return program(bits(-3, -4, -5), row(api.Le, 8, 3, 4, 5))
}

// numbers returns n random numbers from low on.
func numbers(r *rand.Rand, n int, low, size int64) []int64 {
	list := []int64{}
	for range n {
		list = append(list, low+r.Int63n(size))
	}
	return list
}

// knapsack returns a program with rows of one kind, whose bounds are about half of what is there.
func knapsack(r *rand.Rand, kind, n, rows int, size int64) api.Program {
	p := program(bits(numbers(r, n, -size, size)...))
	for range rows {
		coefs, total := numbers(r, n, 1, size), int64(0)
		for _, coef := range coefs {
			total += coef
		}
		p.Rows = append(p.Rows, row(kind, total/2, coefs...))
	}
	return p
}

// randomProgram returns an integer program with few points.
func randomProgram(r *rand.Rand) api.Program {
	p, size := api.Program{}, []int64{1, 3, 9, 50}[r.Intn(4)]
	factor := 1 + r.Int63n(4)*r.Int63n(2)
	for range r.Intn(7) {
		v := api.Var{Upper: 1, Integer: true, Cost: factor * (r.Int63n(2*size+1) - size)}
		if r.Intn(4) == 0 {
			v.Lower = r.Int63n(7) - 4
			v.Upper = v.Lower + r.Int63n(4)
		}
		if r.Intn(60) == 0 {
			v.Lower = v.Upper + 1
		}
		p.Vars = append(p.Vars, v)
	}
	for range r.Intn(6) {
		coefs, bound := []int64{}, int64(0)
		for _, v := range p.Vars {
			coef := (r.Int63n(2*size+1) - size) * r.Int63n(2)
			coefs = append(coefs, coef)
			bound += coef * (v.Lower + r.Int63n(2))
		}
		p.Rows = append(p.Rows, row(r.Intn(7)/3, bound+r.Int63n(3)-1, coefs...))
	}
	return p
}

// programs calls check for many programs.
func programs(count int, check func(r *rand.Rand, p api.Program)) {
	r := rand.New(rand.NewSource(1))
	for range count {
		check(r, randomProgram(r))
	}
}

// total returns the sum of terms at a point.
func total(terms []api.Term, x []int64) int64 {
	sum := int64(0)
	for _, term := range terms {
		sum += term.Coef * x[term.Var]
	}
	return sum
}

// satisfies reports whether a point is within the bounds and violates no row.
func satisfies(p api.Program, x []int64) bool {
	for i, v := range p.Vars {
		if x[i] < v.Lower || x[i] > v.Upper {
			return false
		}
	}
	for _, line := range p.Rows {
		sum := total(line.Terms, x)
		if line.Kind != api.Ge && sum > line.Bound || line.Kind != api.Le && sum < line.Bound {
			return false
		}
	}
	return true
}

// price returns the cost of a point.
func price(p api.Program, x []int64) int64 {
	sum := int64(0)
	for i, v := range p.Vars {
		sum += v.Cost * x[i]
	}
	return sum
}

// points calls yield for all integral points within the bounds.
func points(p api.Program, yield func(x []int64)) {
	x := make([]int64, len(p.Vars))
	var choose func(i int)
	choose = func(i int) {
		if i == len(x) {
			yield(x)
			return
		}
		for n := p.Vars[i].Lower; n <= p.Vars[i].Upper; n++ {
			x[i] = n
			choose(i + 1)
		}
	}
	choose(0)
}

// cheapest returns the least cost of a solution, and false if there is none.
func cheapest(p api.Program) (int64, bool) {
	least, found := int64(0), false
	points(p, func(x []int64) {
		if satisfies(p, x) && (!found || price(p, x) < least) {
			least, found = price(p, x), true
		}
	})
	return least, found
}

// value returns the value of a valid fraction.
func value(a api.Rat) *big.Rat {
	out, _ := new(big.Rat).SetString(rational.Text(a))
	return out
}

// times returns a product.
func times(a *big.Rat, n int64) *big.Rat {
	return new(big.Rat).Mul(a, new(big.Rat).SetInt64(n))
}

// refutes reports whether multipliers prove that a program is infeasible.
func refutes(p api.Program, y []api.Rat) bool {
	coefs, bound, empty := make([]*big.Rat, len(p.Vars)), new(big.Rat), false
	for i, v := range p.Vars {
		coefs[i] = new(big.Rat)
		empty = empty || v.Lower > v.Upper
	}
	for i, a := range y {
		m, line := value(a), p.Rows[i]
		if line.Kind == api.Le && m.Sign() > 0 || line.Kind == api.Ge && m.Sign() < 0 {
			return false
		}
		bound.Add(bound, times(m, line.Bound))
		for _, term := range line.Terms {
			coefs[term.Var].Add(coefs[term.Var], times(m, term.Coef))
		}
	}
	// The combination says that the sum is at least the bound, so the greatest sum has to be less.
	for i, v := range p.Vars {
		end := v.Upper
		if coefs[i].Sign() < 0 {
			end = v.Lower
		}
		bound.Sub(bound, times(coefs[i], end))
	}
	return empty || bound.Sign() > 0
}

// none reports whether a cut is zero.
func none(c api.Cut) bool {
	return c.Kind == 0 && c.Row == 0 && len(c.Vars)+len(c.Multipliers) == 0
}

// counts are numbers of nodes of each kind.
type counts [4]int

// proves returns what is left of a list of nodes behind a proof of a program, and false if there is none.
func proves(p api.Program, list []api.Node, kinds *counts) ([]api.Node, bool) {
	if len(list) == 0 || list[0].Kind < 0 || list[0].Kind > api.NodeCut {
		return nil, false
	}
	n, list := list[0], list[1:]
	kinds[n.Kind]++
	switch n.Kind {
	case api.NodeFarkas:
		return list, n.Var == 0 && n.At == 0 && none(n.Cut) && len(n.Multipliers) <= len(p.Rows) && refutes(p, n.Multipliers)
	case api.NodeEmpty:
		return list, n.At == 0 && none(n.Cut) && len(n.Multipliers) == 0 && p.Vars[n.Var].Lower > p.Vars[n.Var].Upper
	case api.NodeSplit:
		low, high := p, p
		low.Vars, high.Vars = slices.Clone(p.Vars), slices.Clone(p.Vars)
		low.Vars[n.Var].Upper = min(low.Vars[n.Var].Upper, n.At)
		high.Vars[n.Var].Lower = max(high.Vars[n.Var].Lower, n.At+1)
		list, ok := proves(low, list, kinds)
		if !ok || !none(n.Cut) || len(n.Multipliers) > 0 || n.At < -api.MaxCoef || n.At >= api.MaxCoef {
			return nil, false
		}
		return proves(high, list, kinds)
	}
	line, err := cuts.Derive(p, n.Cut)
	if err != api.OK || len(p.Rows) >= api.MaxRows || n.Var != 0 || n.At != 0 || len(n.Multipliers) > 0 {
		return nil, false
	}
	p.Rows = append(slices.Clip(p.Rows), line)
	return proves(p, list, kinds)
}

// answered returns the answer of an integer program, and fails unless it is proved.
func answered(t *testing.T, p api.Program) (api.Answer, counts) {
	t.Helper()
	a, err := branch.Solve(p)
	if err != api.OK {
		t.Fatal("not solved:", p, err)
	}
	return a, proved(t, p, a)
}

// proved fails unless an answer is proved, and returns the numbers of nodes of its proof.
func proved(t *testing.T, p api.Program, a api.Answer) counts {
	t.Helper()
	q, kinds := p, counts{}
	switch {
	case a.Found:
		if len(a.Point) != len(p.Vars) || !satisfies(p, a.Point) || price(p, a.Point) != a.Value {
			t.Fatal("no solution of this value:", p, a.Point, a.Value)
		}
		below, err := branch.Below(p, a.Value-1)
		if err != api.OK {
			t.Fatal(p, a.Value, err)
		}
		q = below
	case len(a.Point) > 0 || a.Value != 0:
		t.Fatal("a point, but not found:", p, a)
	}
	if rest, ok := proves(q, a.Proof, &kinds); !ok || len(rest) > 0 {
		t.Fatal("no proof:", p, a)
	}
	for _, n := range a.Proof {
		for _, y := range slices.Concat(n.Multipliers, n.Cut.Multipliers) {
			if !rational.Valid(y) {
				t.Fatal("not valid:", y)
			}
		}
	}
	return kinds
}

// nothing reports whether an answer is zero.
func nothing(a api.Answer) bool {
	return !a.Found && len(a.Point)+len(a.Proof) == 0 && a.Value == 0
}

// same reports whether two programs are equal, apart from the difference of nil and empty lists.
func same(p, q api.Program) bool {
	return slices.Equal(p.Vars, q.Vars) && slices.EqualFunc(p.Rows, q.Rows, func(a, b api.Row) bool {
		return a.Name == b.Name && a.Group == b.Group && a.Kind == b.Kind && a.Bound == b.Bound && slices.Equal(a.Terms, b.Terms)
	})
}

// lines returns the text of a program.
func lines(p api.Program) []string {
	return linear.Format(p)
}
