package proof_test

import (
	"math"
	"math/big"
	"math/rand"
	"slices"

	"exodus/api"
	"exodus/branch"
	"exodus/cuts"
	"exodus/rational"
	"exodus/simplex"
)

// frac returns a fraction of two numbers.
func frac(a, b int64) api.Rat {
	q, _ := rational.Frac(a, b)
	return q
}

// list returns integers as fractions.
func list(numbers ...int64) []api.Rat {
	out := []api.Rat{}
	for _, n := range numbers {
		out = append(out, rational.From(n))
	}
	return out
}

// odd returns a fraction that is not valid, with the value num / den.
func odd(num int64, den uint32) api.Rat {
	return api.Rat{Num: api.Int{Neg: num < 0, Mag: api.Nat{uint32(max(num, -num)), 0}}, Den: api.Nat{den, 0}}
}

// row returns a row with the given coefficients of the variables 0, 1 and so on.
func row(kind int, bound int64, coefs ...int64) api.Row {
	line := api.Row{Name: "row", Group: 3, Kind: kind, Bound: bound}
	for i, coef := range coefs {
		if coef != 0 {
			line.Terms = append(line.Terms, api.Term{Var: i, Coef: coef})
		}
	}
	return line
}

// box returns Integer variables with the same bounds and the given costs.
func box(lower, upper int64, costs ...int64) []api.Var {
	vars := []api.Var{}
	for _, cost := range costs {
		vars = append(vars, api.Var{Lower: lower, Upper: upper, Integer: true, Cost: cost})
	}
	return vars
}

// bits returns binary variables with the given costs.
func bits(costs ...int64) []api.Var {
	return box(0, 1, costs...)
}

// program returns a program.
func program(vars []api.Var, rows ...api.Row) api.Program {
	return api.Program{Vars: vars, Rows: rows}
}

// example returns the program of the chapter's example.
func example() api.Program {
	return program(bits(0, 0), row(api.Eq, 1, 2, 2))
}

// Nodes of each kind.
func farkas(y ...api.Rat) api.Node   { return api.Node{Kind: api.NodeFarkas, Multipliers: y} }
func empty(v int) api.Node           { return api.Node{Kind: api.NodeEmpty, Var: v} }
func split(v int, at int64) api.Node { return api.Node{Kind: api.NodeSplit, Var: v, At: at} }
func cutting(c api.Cut) api.Node     { return api.Node{Kind: api.NodeCut, Cut: c} }
func round(y ...api.Rat) api.Node    { return cutting(api.Cut{Kind: api.CutRound, Multipliers: y}) }
func cover(row int, vars ...int) api.Node {
	return cutting(api.Cut{Kind: api.CutCover, Row: row, Vars: vars})
}

// exampleProof returns the proof of the chapter's example.
func exampleProof() []api.Node {
	less, more := farkas(list(-1)...), farkas(list(1)...)
	return []api.Node{split(0, 0), split(1, 0), more, less, less}
}

// randomProgram returns an integer program with few points.
func randomProgram(r *rand.Rand) api.Program {
	p, size := api.Program{}, []int64{1, 3, 9, 50}[r.Intn(4)]
	for range r.Intn(5) {
		v := api.Var{Upper: 1, Integer: true, Cost: r.Int63n(2*size+1) - size}
		if r.Intn(4) == 0 {
			v.Lower = r.Int63n(7) - 4
			v.Upper = v.Lower + r.Int63n(4)
		}
		if r.Intn(40) == 0 {
			v.Lower = v.Upper + 1
		}
		p.Vars = append(p.Vars, v)
	}
	for range r.Intn(6) {
		coefs, bound := []int64{}, int64(0)
		for _, v := range p.Vars {
			coef := (r.Int63n(2*size+1) - size) * r.Int63n(2)
			coefs = append(coefs, coef)
			bound += coef * (v.Lower + r.Int63n(2))
		}
		p.Rows = append(p.Rows, row(r.Intn(7)/3, bound+r.Int63n(3)-1, coefs...))
	}
	return p
}

// programs calls check for many integer programs.
func programs(count int, check func(r *rand.Rand, p api.Program)) {
	r := rand.New(rand.NewSource(1))
	for range count {
		check(r, randomProgram(r))
	}
}

// hopeless calls check for many integer programs without a solution, with proofs of them.
func hopeless(count int, check func(r *rand.Rand, p api.Program, t []api.Node)) {
	r := rand.New(rand.NewSource(2))
	for count > 0 {
		if p := randomProgram(r); !solvable(p) {
			check(r, p, grow(r, p, r.Intn(2) == 0, r.Intn(5)))
			count--
		}
	}
}

// grow returns some proof of a program without a solution, with or without cuts. For some levels it may go on where a leaf would do.
func grow(r *rand.Rand, p api.Program, cut bool, levels int) []api.Node {
	o, _ := simplex.Solve(p)
	if o.Kind == api.Infeasible && (levels <= 0 || len(p.Vars) == 0 || r.Intn(3) == 0) {
		return []api.Node{leaf(r, p, o.Multipliers)}
	}
	if c := someCut(r, p, o.Point); cut && r.Intn(2) == 0 && len(p.Rows) < 12 {
		if q, err := cuts.Add(p, c); err == api.OK {
			return append([]api.Node{cutting(c)}, grow(r, q, cut, levels-1)...)
		}
	}
	v := r.Intn(len(p.Vars))
	at := p.Vars[v].Lower + r.Int63n(max(1, p.Vars[v].Upper-p.Vars[v].Lower))
	low, high, _ := branch.Split(p, v, at)
	return slices.Concat([]api.Node{split(v, at)}, grow(r, low, cut, levels-1), grow(r, high, cut, levels-1))
}

// leaf returns a leaf for a program that multipliers prove infeasible.
func leaf(r *rand.Rand, p api.Program, y []api.Rat) api.Node {
	for i, v := range p.Vars {
		if v.Lower > v.Upper && r.Intn(2) == 0 {
			return empty(i)
		}
	}
	for len(y) > 0 && rational.Sign(y[len(y)-1]) == 0 {
		y = y[:len(y)-1]
	}
	return farkas(y...)
}

// someCut returns a cover, a cut that a point violates, or any other.
func someCut(r *rand.Rand, p api.Program, x []api.Rat) api.Cut {
	if c, ok := cuts.Cover(p, r.Intn(len(p.Rows)+1), x); ok && r.Intn(2) == 0 {
		return c
	}
	if found := cuts.Separate(p, x); len(found) > 0 {
		return found[r.Intn(len(found))]
	}
	y := []api.Rat{}
	for _, line := range p.Rows {
		sign := []int64{-1, 1, r.Int63n(3) - 1}[line.Kind]
		y = append(y, frac(sign*r.Int63n(3), 1+r.Int63n(4)))
	}
	return api.Cut{Multipliers: y}
}

// points calls yield for all integral points within the bounds.
func points(p api.Program, yield func(x []int64)) {
	x := make([]int64, len(p.Vars))
	var choose func(i int)
	choose = func(i int) {
		if i == len(x) {
			yield(x)
			return
		}
		for n := p.Vars[i].Lower; n <= p.Vars[i].Upper; n++ {
			x[i] = n
			choose(i + 1)
		}
	}
	choose(0)
}

// satisfies reports whether a point has one component for each variable, is within the bounds and violates no row.
func satisfies(p api.Program, x []int64) bool {
	if len(x) != len(p.Vars) {
		return false
	}
	for i, v := range p.Vars {
		if x[i] < v.Lower || x[i] > v.Upper {
			return false
		}
	}
	for _, line := range p.Rows {
		sum := int64(0)
		for _, term := range line.Terms {
			sum += term.Coef * x[term.Var]
		}
		if line.Kind != api.Ge && sum > line.Bound || line.Kind != api.Le && sum < line.Bound {
			return false
		}
	}
	return true
}

// price returns the cost of a point.
func price(p api.Program, x []int64) int64 {
	sum := int64(0)
	for i, v := range p.Vars {
		sum += v.Cost * x[i]
	}
	return sum
}

// cheapest returns the least cost of a solution, and false if there is none.
func cheapest(p api.Program) (int64, bool) {
	least, found := int64(math.MaxInt64), false
	points(p, func(x []int64) {
		if satisfies(p, x) {
			least, found = min(least, price(p, x)), true
		}
	})
	return least, found
}

// solvable reports whether a program has a solution.
func solvable(p api.Program) bool {
	_, found := cheapest(p)
	return found
}

// natural returns the value of a list of digits.
func natural(digits api.Nat) *big.Int {
	v := new(big.Int)
	for _, d := range slices.Backward(digits) {
		v.Lsh(v, 32)
		v.Or(v, big.NewInt(int64(d)))
	}
	return v
}

// value returns the value of a fraction, which may be not valid.
func value(a api.Rat) *big.Rat {
	num, den := natural(a.Num.Mag), natural(a.Den)
	if a.Num.Neg {
		num.Neg(num)
	}
	if den.Sign() == 0 {
		den.SetInt64(1)
	}
	return new(big.Rat).SetFrac(num, den)
}

// times returns a product.
func times(a *big.Rat, n int64) *big.Rat {
	return new(big.Rat).Mul(a, new(big.Rat).SetInt64(n))
}

// refutes reports whether multipliers prove that a program is infeasible.
func refutes(p api.Program, y []api.Rat) bool {
	if len(y) > len(p.Rows) {
		return false
	}
	coefs, bound, none := make([]*big.Rat, len(p.Vars)), new(big.Rat), false
	for i, v := range p.Vars {
		coefs[i] = new(big.Rat)
		none = none || v.Lower > v.Upper
	}
	for i, a := range y {
		m, line := value(a), p.Rows[i]
		if line.Kind == api.Le && m.Sign() > 0 || line.Kind == api.Ge && m.Sign() < 0 {
			return false
		}
		bound.Add(bound, times(m, line.Bound))
		for _, term := range line.Terms {
			coefs[term.Var].Add(coefs[term.Var], times(m, term.Coef))
		}
	}
	// The combination says that the sum is at least the bound, so the greatest sum has to be less.
	for i, v := range p.Vars {
		end := v.Upper
		if coefs[i].Sign() < 0 {
			end = v.Lower
		}
		bound.Sub(bound, times(coefs[i], end))
	}
	return none || bound.Sign() > 0
}

// zero reports whether a cut is zero.
func zero(c api.Cut) bool {
	return c.Kind == 0 && c.Row == 0 && len(c.Vars)+len(c.Multipliers) == 0
}

// behind returns what is left of a list of nodes behind a proof of a program, and false if there is none.
func behind(p api.Program, t []api.Node) ([]api.Node, bool) {
	if len(t) == 0 {
		return nil, false
	}
	n, t := t[0], t[1:]
	known := n.Var >= 0 && n.Var < len(p.Vars)
	switch n.Kind {
	case api.NodeFarkas:
		return t, n.Var == 0 && n.At == 0 && zero(n.Cut) && refutes(p, n.Multipliers)
	case api.NodeEmpty:
		return t, known && n.At == 0 && zero(n.Cut) && len(n.Multipliers) == 0 && p.Vars[n.Var].Lower > p.Vars[n.Var].Upper
	case api.NodeSplit:
		low, high, err := branch.Split(p, n.Var, n.At)
		if err != api.OK || len(n.Multipliers) > 0 || !zero(n.Cut) {
			return nil, false
		}
		rest, ok := behind(low, t)
		if !ok {
			return nil, false
		}
		return behind(high, rest)
	case api.NodeCut:
		q, err := cuts.Add(p, n.Cut)
		if err != api.OK || n.Var != 0 || n.At != 0 || len(n.Multipliers) > 0 {
			return nil, false
		}
		return behind(q, t)
	}
	return nil, false
}

// proves reports whether a list of nodes is a proof of an integer program.
func proves(p api.Program, t []api.Node) bool {
	rest, ok := behind(p, t)
	return ok && len(rest) == 0
}

// copiedRats returns fractions in other memory, with spare capacity that is in use.
func copiedRats(fractions []api.Rat) []api.Rat {
	out := []api.Rat{}
	for _, a := range fractions {
		out = append(out, api.Rat{Num: api.Int{Neg: a.Num.Neg, Mag: append(slices.Clone(a.Num.Mag), 99)[:len(a.Num.Mag)]}, Den: append(slices.Clone(a.Den), 99)[:len(a.Den)]})
	}
	return append(out, api.Rat{Den: api.Nat{99}})[:len(fractions)]
}

// copied returns nodes in other memory, with spare capacity that is in use.
func copied(t []api.Node) []api.Node {
	out := []api.Node{}
	for _, n := range t {
		n.Multipliers, n.Cut.Multipliers = copiedRats(n.Multipliers), copiedRats(n.Cut.Multipliers)
		n.Cut.Vars = append(slices.Clone(n.Cut.Vars), 99)[:len(n.Cut.Vars)]
		out = append(out, n)
	}
	return append(out, api.Node{At: 99})[:len(t)]
}

// changed returns a list of nodes that differs in one place.
func changed(r *rand.Rand, t []api.Node) []api.Node {
	t = copied(t)
	if len(t) == 0 {
		return []api.Node{farkas()}
	}
	i := r.Intn(len(t))
	numbers := []int{-1, 0, 1, 2, 3, 4, math.MaxInt, math.MinInt}
	some := func() int { return numbers[r.Intn(len(numbers))] }
	fractions := []api.Rat{{}, frac(1, 1), frac(-1, 1), frac(1, 2), frac(-2, 3), odd(2, 4), odd(-3, 1), odd(0, 0), frac(7, 1)}
	any := fractions[r.Intn(len(fractions))]
	n := &t[i]
	switch r.Intn(14) {
	case 0:
		return slices.Delete(t, i, i+1)
	case 1:
		return slices.Insert(t, i, t[r.Intn(len(t))])
	case 2:
		return append(t, t[i])
	case 3:
		return t[:i]
	case 4:
		n.Kind = some()
	case 5:
		n.Var = some()
	case 6:
		n.At = []int64{-1, 0, 1, n.At + 1, n.At - 1, api.MaxCoef, -api.MaxCoef, api.MaxCoef - 1, -api.MaxCoef - 1}[r.Intn(9)]
	case 7:
		n.Cut.Kind = some()
	case 8:
		n.Cut.Row = some()
	case 9:
		n.Cut.Vars = append(n.Cut.Vars, some())
	case 10:
		n.Multipliers = append(n.Multipliers, any)
	case 11:
		n.Cut.Multipliers = append(n.Cut.Multipliers, any)
	case 12:
		for _, y := range [][]api.Rat{n.Multipliers, n.Cut.Multipliers} {
			if len(y) > 0 {
				y[r.Intn(len(y))] = any
			}
		}
	default:
		k := r.Intn(len(t))
		t[i], t[k] = t[k], t[i]
	}
	return t
}
