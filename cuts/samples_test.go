package cuts_test

import (
	"math/big"
	"math/rand"
	"slices"
	"testing"

	"exodus/api"
	"exodus/linear"
	"exodus/rational"
)

// frac returns a fraction of two numbers.
func frac(a, b int64) api.Rat {
	q, _ := rational.Frac(a, b)
	return q
}

// point returns fractions with the given texts.
func point(list ...string) []api.Rat {
	x := []api.Rat{}
	for _, s := range list {
		a, _ := rational.Parse(s)
		x = append(x, a)
	}
	return x
}

// row returns a row with the given coefficients of the variables 0, 1 and so on.
func row(kind int, bound int64, coefs ...int64) api.Row {
	line := api.Row{Name: "row", Group: 3, Kind: kind, Bound: bound}
	for i, coef := range coefs {
		if coef != 0 {
			line.Terms = append(line.Terms, api.Term{Var: i, Coef: coef})
		}
	}
	return line
}

// bits returns n binary variables.
func bits(n int) []api.Var {
	return slices.Repeat([]api.Var{{Upper: 1, Integer: true}}, n)
}

// program returns a program.
func program(vars []api.Var, rows ...api.Row) api.Program {
	return api.Program{Vars: vars, Rows: rows}
}

// example returns the program of the chapter's example.
func example() api.Program {
	return program(bits(3), row(api.Le, 7, 3, 4, 5))
}

// cover returns a CutCover.
func cover(row int, vars ...int) api.Cut {
	return api.Cut{Kind: api.CutCover, Row: row, Vars: vars}
}

// rounding returns a CutRound.
func rounding(multipliers ...string) api.Cut {
	return api.Cut{Kind: api.CutRound, Multipliers: point(multipliers...)}
}

// text returns the line of a row in a program with its variables.
func text(vars []api.Var, line api.Row) string {
	return linear.Format(program(vars, line))[len(vars)]
}

// value returns the value of a fraction.
func value(a api.Rat) *big.Rat {
	natural := func(digits api.Nat) *big.Int {
		v := new(big.Int)
		for _, d := range slices.Backward(digits) {
			v.Lsh(v, 32)
			v.Or(v, big.NewInt(int64(d)))
		}
		return v
	}
	num, den := natural(a.Num.Mag), natural(a.Den)
	if a.Num.Neg {
		num.Neg(num)
	}
	if den.Sign() == 0 {
		den.SetInt64(1)
	}
	return new(big.Rat).SetFrac(num, den)
}

// at returns the value of an element, which is 0 behind the end.
func at(list []api.Rat, i int) *big.Rat {
	if i < len(list) {
		return value(list[i])
	}
	return new(big.Rat)
}

// whole returns a number as a fraction.
func whole(n int64) *big.Rat {
	return new(big.Rat).SetInt64(n)
}

// times returns a product.
func times(a *big.Rat, n int64) *big.Rat {
	return new(big.Rat).Mul(a, whole(n))
}

// ceil returns the least integer that is not less.
func ceil(a *big.Rat) *big.Int {
	// Euclidean division rounds down here, because the divisor is positive.
	floor := new(big.Int).Div(new(big.Int).Neg(a.Num()), a.Denom())
	return floor.Neg(floor)
}

// exceeds reports whether a number is beyond MaxCoef.
func exceeds(a *big.Int) bool {
	return a.CmpAbs(big.NewInt(api.MaxCoef)) > 0
}

// violated reports whether a point violates a row of the kind Le or Ge.
func violated(line api.Row, x []api.Rat) bool {
	sum := new(big.Rat)
	for _, term := range line.Terms {
		sum.Add(sum, times(at(x, term.Var), term.Coef))
	}
	order := sum.Cmp(whole(line.Bound))
	return line.Kind == api.Le && order > 0 || line.Kind == api.Ge && order < 0
}

// isBinary reports whether a variable is binary.
func isBinary(v api.Var) bool {
	return v.Integer && !v.Open && v.Lower == 0 && v.Upper == 1
}

// randomVar returns a variable; most are binary.
func randomVar(r *rand.Rand) api.Var {
	v := api.Var{Upper: 1, Integer: true, Cost: r.Int63n(9) - 4}
	switch r.Intn(12) {
	case 0:
		v.Lower, v.Upper, v.Open = r.Int63n(7)-3, 0, true
	case 1, 2:
		v.Lower = r.Int63n(9) - 5
		v.Upper = v.Lower + r.Int63n(4)
	case 3:
		v.Integer, v.Upper = false, r.Int63n(4)
	case 4:
		v.Lower = r.Int63n(3)
	}
	return v
}

// randomProgram returns a program of a few variables and rows.
func randomProgram(r *rand.Rand) api.Program {
	p, size := api.Program{}, []int64{1, 4, 9, 100, api.MaxCoef}[r.Intn(5)]
	for range r.Intn(6) {
		p.Vars = append(p.Vars, randomVar(r))
	}
	for range r.Intn(5) {
		coefs, bound := []int64{}, int64(0)
		for range p.Vars {
			coef := (r.Int63n(2*size+1) - size) * r.Int63n(2)
			if r.Intn(3) > 0 {
				coef = max(coef, -coef)
			}
			coefs = append(coefs, coef)
			bound += coef * r.Int63n(2)
		}
		p.Rows = append(p.Rows, row(r.Intn(3), min(api.MaxCoef, max(-api.MaxCoef, bound+r.Int63n(3)-1)), coefs...))
	}
	return p
}

// randomPoint returns a point that may be too short or too long for n variables.
func randomPoint(r *rand.Rand, n int) []api.Rat {
	x := []api.Rat{}
	for range max(0, n+r.Intn(7)/3-1) {
		switch r.Intn(5) {
		case 0:
			x = append(x, api.Rat{})
		case 1:
			x = append(x, rational.From(1))
		case 2:
			// This fraction is not valid, and has the value 2/3.
			x = append(x, api.Rat{Num: api.Int{Mag: api.Nat{4, 0}}, Den: api.Nat{6, 0}})
		default:
			x = append(x, frac(r.Int63n(8), 1+r.Int63n(7)))
		}
	}
	return x
}

// randomMultipliers returns multipliers for rows; most have the right signs.
func randomMultipliers(r *rand.Rand, rows []api.Row) []api.Rat {
	y := []api.Rat{}
	for _, line := range rows[:len(rows)-r.Intn(len(rows)+1)/2] {
		n := r.Int63n(6)
		if line.Kind == api.Le || line.Kind == api.Eq && r.Intn(2) == 0 {
			n = -n
		}
		if r.Intn(15) == 0 {
			n = -n
		}
		y = append(y, frac(n, 1+r.Int63n(9)))
	}
	return y
}

// randomCut returns a cut, of which many are derivations.
func randomCut(r *rand.Rand, p api.Program) api.Cut {
	if r.Intn(2) == 0 {
		return api.Cut{Kind: api.CutRound, Multipliers: randomMultipliers(r, p.Rows)}
	}
	vars := []int{}
	for i, v := range p.Vars {
		if r.Intn(4) > 0 && (isBinary(v) || r.Intn(9) == 0) {
			vars = append(vars, i)
		}
	}
	return cover(r.Intn(len(p.Rows)+1), vars...)
}

// programs calls check for many programs.
func programs(count int, check func(r *rand.Rand, p api.Program)) {
	r := rand.New(rand.NewSource(1))
	for range count {
		check(r, randomProgram(r))
	}
}

// solutions calls yield for the integral solutions of a program at which all variables have integers and open ones are at most 3 above their Lower.
func solutions(p api.Program, yield func(x []api.Rat)) {
	x := make([]api.Rat, len(p.Vars))
	var choose func(i int)
	choose = func(i int) {
		if i == len(x) {
			if len(linear.Violated(p, x)) == 0 {
				yield(x)
			}
			return
		}
		v := p.Vars[i]
		if v.Open {
			v.Upper = v.Lower + 3
		}
		for n := v.Lower; n <= v.Upper; n++ {
			x[i] = rational.From(n)
			choose(i + 1)
		}
	}
	choose(0)
}

// equal reports whether two rows are equal.
func equal(a, b api.Row) bool {
	return a.Name == b.Name && a.Group == b.Group && a.Kind == b.Kind && a.Bound == b.Bound && slices.Equal(a.Terms, b.Terms)
}

// sameCut reports whether two cuts are equal.
func sameCut(a, b api.Cut) bool {
	sameRat := func(x, y api.Rat) bool {
		return x.Num.Neg == y.Num.Neg && slices.Equal(x.Num.Mag, y.Num.Mag) && slices.Equal(x.Den, y.Den)
	}
	return a.Kind == b.Kind && a.Row == b.Row && slices.Equal(a.Vars, b.Vars) && slices.EqualFunc(a.Multipliers, b.Multipliers, sameRat)
}

// zero fails unless a row is the zero row.
func zero(t *testing.T, line api.Row, arguments ...any) {
	t.Helper()
	if !equal(line, api.Row{}) {
		t.Error("not zero", line, arguments)
	}
}
