package cuts_test

import (
	"math"
	"math/big"
	"math/rand"
	"slices"
	"testing"

	"exodus/api"
	"exodus/cuts"
)

// invalid returns programs that are not valid.
func invalid() []api.Program {
	return []api.Program{
		program(bits(3), row(3, 7, 3, 4, 5)),
		program(bits(2), row(api.Le, 7, 3, 4, 5)),
		program(bits(3), row(api.Le, api.MaxCoef+1, 3, 4, 5)),
		program([]api.Var{{Upper: 1, Open: true}}),
		{Vars: make([]api.Var, api.MaxVars+1)},
		{Rows: make([]api.Row, api.MaxRows+1)},
	}
}

// derivation is a cut and what Derive makes of it.
type derivation struct {
	name string
	p    api.Program
	cut  api.Cut
	want string
}

// check fails unless the rows of cuts are as they have to be.
func check(t *testing.T, list []derivation) {
	t.Helper()
	for _, c := range list {
		line, err := cuts.Derive(c.p, c.cut)
		if err != api.OK || line.Name != "cut" || line.Group != 0 || text(c.p.Vars, line) != c.want {
			t.Error(c.name, line, err)
		}
	}
}

// P7.1: rows that are rounded.
func TestDeriveRound(t *testing.T) {
	moved := []api.Var{{Lower: -3, Upper: 5, Integer: true}, {Lower: 2, Upper: 9, Integer: true}, {Lower: 7, Open: true, Integer: true}}
	mixed := []api.Var{{Upper: 9, Integer: true}, {Lower: 2, Upper: 9}, {Lower: -1, Open: true}}
	two := program(moved, row(api.Ge, 4, 1, 2, 0), row(api.Le, 8, 5, 0, -3), row(api.Eq, -7, 0, 1, 1))
	check(t, []derivation{
		{"the example", example(), rounding("-1/4"), "cut (0): -x1 - x2 >= -1"},
		{"coefficients that become 0", example(), rounding("-1/6"), "cut (0): 0 >= -1"},
		{"no multipliers", example(), rounding(), "cut (0): 0 >= 0"},
		{"the multiplier 0", example(), rounding("0"), "cut (0): 0 >= 0"},
		{"no rows", program(bits(2)), rounding(), "cut (0): 0 >= 0"},
		{"no variables", program(nil, row(api.Ge, 3)), rounding("1/2"), "cut (0): 0 >= 2"},
		{"at least", program(bits(2), row(api.Ge, 3, 2, 2)), rounding("1/2"), "cut (0): x0 + x1 >= 2"},
		{"equal, positive", program(bits(2), row(api.Eq, 1, 2, 2)), rounding("1/2"), "cut (0): x0 + x1 >= 1"},
		{"equal, negative", program(bits(2), row(api.Eq, 1, 2, 2)), rounding("-1/2"), "cut (0): -x0 - x1 >= 0"},
		{"whole coefficients stay", program(bits(2), row(api.Ge, 3, 2, -5)), rounding("2"), "cut (0): 4 x0 - 10 x1 >= 6"},
		// x0 + 2 x1 >= 4 is z0 + 2 z1 >= 3 from the Lower on; a third of it, rounded, is z0 + z1 >= 1.
		{"Lower", two, rounding("1/3"), "cut (0): x0 + x1 >= 0"},
		// 5 x0 - 3 x2 <= 8 is 5 z0 - 3 z2 <= 44; minus half of it, rounded, is -2 z0 + 2 z2 >= -22.
		{"Lower of an open variable", two, rounding("0", "-1/2"), "cut (0): -2 x0 + 2 x2 >= -2"},
		{"several rows", two, rounding("1/2", "-1/4", "1/3"), "cut (0): 2 x1 + 2 x2 >= 4"},
		{"too few multipliers", two, rounding("1/2", "-1/4"), "cut (0): x1 + x2 >= 0"},
		// x0/2 - x1 - x2/3 >= 5/2 is x0/2 - z1 - z2/3 >= 25/6 from the Lower on.
		{"variables that are not Integer", program(mixed, row(api.Ge, 15, 3, -6, -2)), rounding("1/6"), "cut (0): x0 >= 5"},
		{"not Integer with the coefficient 0", program(mixed, row(api.Ge, 3, 2, 1, 0), row(api.Eq, 5, 0, 1, 0)), rounding("1/2", "-1/2"), "cut (0): x0 >= -1"},
		{"bounds that leave nothing", program([]api.Var{{Lower: 5, Upper: 4, Integer: true}}, row(api.Ge, 11, 2)), rounding("1/2"), "cut (0): x0 >= 6"},
	})
}

// P7.1: fractions that are not valid count by their values.
func TestDeriveOddFractions(t *testing.T) {
	y := []api.Rat{{Num: api.Int{Neg: true, Mag: api.Nat{2, 0}}, Den: api.Nat{8, 0}}, {Num: api.Int{Neg: true}, Den: api.Nat{0}}}
	p := program(bits(3), row(api.Le, 7, 3, 4, 5), row(api.Ge, 7, 3, 4, 5))
	check(t, []derivation{{"odd", p, api.Cut{Kind: api.CutRound, Multipliers: y}, "cut (0): -x1 - x2 >= -1"}})
}

// P7.1: rows of covers.
func TestDeriveCover(t *testing.T) {
	mixed := append(bits(3), api.Var{Lower: -2, Upper: 3}, api.Var{Lower: -1, Open: true, Integer: true})
	outside := append(bits(3), api.Var{Open: true}, api.Var{Lower: 1, Upper: 0}, api.Var{Upper: 1, Integer: true})
	check(t, []derivation{
		{"the example", example(), cover(0, 0, 2), "cut (0): x0 + x2 <= 1"},
		{"not minimal", example(), cover(0, 0, 1, 2), "cut (0): x0 + x1 + x2 <= 2"},
		{"one variable", program(bits(2), row(api.Le, 2, 3, 1)), cover(0, 0), "cut (0): x0 <= 0"},
		{"equal", program(bits(3), row(api.Eq, 7, 3, 4, 5)), cover(0, 1, 2), "cut (0): x1 + x2 <= 1"},
		{"at least, with negative coefficients", program(bits(3), row(api.Ge, -7, -3, -4, -5)), cover(0, 1, 2), "cut (0): x1 + x2 <= 1"},
		{"at least, with the greatest sum of the others", program(bits(3), row(api.Ge, 1, 3, -2, -2)), cover(0, 1, 2), "cut (0): x1 + x2 <= 1"},
		{"others with negative coefficients", program(bits(3), row(api.Le, 4, 3, 4, -2)), cover(0, 0, 1), "cut (0): x0 + x1 <= 1"},
		{"a negative coefficient in the cover", program(bits(3), row(api.Le, 4, 3, 4, -2)), cover(0, 0, 1, 2), "cut (0): x0 + x1 + x2 <= 2"},
		{"a row that never holds", program(bits(3), row(api.Le, -1, 3, 4, 5)), cover(0, 1), "cut (0): x1 <= 0"},
		{"a row without terms that never holds", program(bits(3), row(api.Ge, 1)), cover(0, 1), "cut (0): x1 <= 0"},
		{"not binary, from Lower on", program(mixed, row(api.Le, 1, 3, 4, 0, 2, 1)), cover(0, 0, 1), "cut (0): x0 + x1 <= 1"},
		{"not binary, from Upper on", program(mixed, row(api.Le, -1, 3, 4, 0, -2, 1)), cover(0, 0, 1), "cut (0): x0 + x1 <= 1"},
		{"variables outside the row", program(outside, row(api.Le, 7, 3, 4, 5)), cover(0, 0, 2, 5), "cut (0): x0 + x2 + x5 <= 2"},
		{"another row", program(bits(3), row(api.Le, 9, 3, 4, 5), row(api.Le, 7, 3, 4, 5)), cover(1, 0, 2), "cut (0): x0 + x2 <= 1"},
	})
}

// failure is a cut that Derive does not accept.
type failure struct {
	name string
	p    api.Program
	cut  api.Cut
	want api.Errno
}

// fail fails unless Derive and Add return errors, and nothing else.
func fail(t *testing.T, list []failure) {
	t.Helper()
	for _, c := range list {
		line, err := cuts.Derive(c.p, c.cut)
		zero(t, line, c.name)
		if err != c.want {
			t.Error(c.name, err)
		}
		q, err := cuts.Add(c.p, c.cut)
		if err != c.want || len(q.Vars)+len(q.Rows) > 0 {
			t.Error(c.name, q, err)
		}
	}
}

// P7.1 and the errors of Derive: cuts that are not well formed.
func TestDeriveArguments(t *testing.T) {
	p := example()
	several := append(bits(1), api.Var{Upper: 1}, api.Var{Upper: 2, Integer: true}, api.Var{Lower: 1, Upper: 1, Integer: true}, api.Var{Open: true, Integer: true}, api.Var{Upper: 0, Integer: true})
	q := program(several, row(api.Le, -99, 1))
	list := []failure{
		{"unknown kind", p, api.Cut{Kind: 2}, api.ErrArg},
		{"negative kind", p, api.Cut{Kind: -1}, api.ErrArg},
		{"any kind", p, api.Cut{Kind: math.MinInt}, api.ErrArg},
		{"round with a row", program(bits(3), row(api.Le, 7, 3), row(api.Le, 7, 3)), api.Cut{Multipliers: point("-1/4"), Row: 1}, api.ErrArg},
		{"round with a negative row", p, api.Cut{Multipliers: point("-1/4"), Row: -1}, api.ErrArg},
		{"round with variables", p, api.Cut{Multipliers: point("-1/4"), Vars: []int{0}}, api.ErrArg},
		{"more multipliers than rows", p, rounding("-1/4", "0"), api.ErrArg},
		{"multipliers without rows", program(bits(3)), rounding("0"), api.ErrArg},
		{"cover with multipliers", p, api.Cut{Kind: api.CutCover, Vars: []int{0, 2}, Multipliers: point("0")}, api.ErrArg},
		{"no such row", p, cover(1, 0, 2), api.ErrArg},
		{"a negative row", p, cover(-1, 0, 2), api.ErrArg},
		{"the least row", p, cover(math.MinInt, 0, 2), api.ErrArg},
		{"no rows", program(bits(3)), cover(0, 0), api.ErrArg},
		{"no variables", p, cover(0), api.ErrArg},
		{"the same variable twice", p, cover(0, 2, 2), api.ErrArg},
		{"decreasing", p, cover(0, 2, 0), api.ErrArg},
		{"a negative variable", p, cover(0, -1, 2), api.ErrArg},
		{"no such variable", p, cover(0, 2, 3), api.ErrArg},
		{"the greatest variable", p, cover(0, 2, math.MaxInt), api.ErrArg},
		{"not Integer", q, cover(0, 1), api.ErrArg},
		{"the Upper 2", q, cover(0, 2), api.ErrArg},
		{"the Lower 1", q, cover(0, 3), api.ErrArg},
		{"open", q, cover(0, 4), api.ErrArg},
		{"the Upper 0", q, cover(0, 0, 5), api.ErrArg},
	}
	for _, broken := range invalid() {
		list = append(list, failure{"not valid", broken, rounding(), api.ErrArg}, failure{"not valid", broken, cover(0, 0), api.ErrArg})
	}
	fail(t, list)
}

// P7.1 and the errors of Derive: what is not proved.
func TestDeriveRejected(t *testing.T) {
	mixed := []api.Var{{Upper: 9, Integer: true}, {Lower: 2, Upper: 9}, {Open: true}, {Lower: 1, Integer: true}}
	binary := append(bits(2), mixed...)
	fail(t, []failure{
		{"a positive multiplier for Le", example(), rounding("1/4"), api.ErrRejected},
		{"a negative multiplier for Ge", program(bits(1), row(api.Ge, 0, 1)), rounding("-1/4"), api.ErrRejected},
		{"of a second row", program(bits(1), row(api.Ge, 0, 1), row(api.Le, 0, 1)), rounding("1", "1/9"), api.ErrRejected},
		{"not Integer, positive", program(mixed, row(api.Ge, 15, 3, 1)), rounding("1/6"), api.ErrRejected},
		{"open and not Integer, positive", program(mixed, row(api.Ge, 15, 3, -1, 1)), rounding("1/6"), api.ErrRejected},
		{"not Integer, positive in the combination", program(mixed, row(api.Ge, 15, 3, -1), row(api.Le, 15, 3, -2)), rounding("1", "-1"), api.ErrRejected},
		{"rejected before too large", program(mixed, row(api.Ge, 15, api.MaxCoef, 1)), rounding("2"), api.ErrRejected},
		{"rejected before too large, behind", program(mixed, row(api.Ge, 15, 0, 1, 0, api.MaxCoef)), rounding("2"), api.ErrRejected},
		{"they fit", example(), cover(0, 0, 1), api.ErrRejected},
		{"they just fit", program(bits(3), row(api.Le, 8, 3, 4, 5)), cover(0, 0, 2), api.ErrRejected},
		{"equal, too small", program(bits(3), row(api.Eq, 7, 3, 4, 1)), cover(0, 0, 2), api.ErrRejected},
		{"at least, great enough", program(bits(3), row(api.Ge, 3, 3, 4, -1)), cover(0, 2), api.ErrRejected},
		{"the others make room", program(bits(3), row(api.Le, 5, 3, 4, -2)), cover(0, 0, 1), api.ErrRejected},
		{"no least value: open", program(binary, row(api.Le, -99, 3, 4, 0, 0, -1)), cover(0, 0), api.ErrRejected},
		{"no least value: Lower greater than Upper", program(binary, row(api.Le, -99, 3, 4, 0, 0, 0, 1)), cover(0, 0), api.ErrRejected},
		{"no greatest value: open", program(binary, row(api.Ge, 99, 3, 4, 0, 0, 1)), cover(0, 0), api.ErrRejected},
		{"no greatest value: Lower greater than Upper", program(binary, row(api.Ge, 99, 3, 4, 0, 0, 0, 1)), cover(0, 0), api.ErrRejected},
		{"outside a row that holds", program(bits(3), row(api.Le, 3, 1, 1)), cover(0, 2), api.ErrRejected},
	})
	check(t, []derivation{
		{"open in the other direction", program(binary, row(api.Ge, 99, 3, 4, 0, 0, -1)), cover(0, 0), "cut (0): x0 <= 0"},
		{"open in the other direction, at most", program(binary, row(api.Le, -99, 3, 4, 0, 0, 1)), cover(0, 0), "cut (0): x0 <= 0"},
	})
}

// P7.1 and the errors of Derive: coefficients and bounds at and beyond MaxCoef.
func TestDeriveTooLarge(t *testing.T) {
	most := int64(api.MaxCoef)
	far := []api.Var{{Lower: -most, Upper: most, Integer: true}, {Lower: most, Upper: most, Integer: true}}
	check(t, []derivation{
		{"the greatest coefficient", program(bits(1), row(api.Ge, 0, most)), rounding("1"), "cut (0): 1099511627776 x0 >= 0"},
		{"the least coefficient", program(bits(1), row(api.Le, 0, most)), rounding("-1"), "cut (0): -1099511627776 x0 >= 0"},
		{"rounded up to the least one", program(bits(1), row(api.Le, 0, most), row(api.Le, 0, 1)), rounding("-1", "-1/2"), "cut (0): -1099511627776 x0 >= 0"},
		{"the greatest bound", program(bits(1), row(api.Ge, most, 1)), rounding("1"), "cut (0): x0 >= 1099511627776"},
		{"the least bound", program(bits(1), row(api.Le, most, 1)), rounding("-1"), "cut (0): -x0 >= -1099511627776"},
		{"great numbers that cancel out", program(far, row(api.Ge, most, most, most)), rounding("1"), "cut (0): 1099511627776 x0 + 1099511627776 x1 >= 1099511627776"},
		{"the bound by Lower", program(slices.Repeat(far[1:], 2), row(api.Ge, 0, 3, 3)), rounding("1/2"), "cut (0): 2 x0 + 2 x1 >= 1099511627776"},
		{"a great multiplier", program(bits(1), row(api.Ge, 2, 1)), rounding("549755813888"), "cut (0): 549755813888 x0 >= 1099511627776"},
	})
	fail(t, []failure{
		{"a coefficient", program(bits(1), row(api.Ge, 0, most)), rounding("1099511627777/1099511627776"), api.ErrTooLarge},
		{"a negative coefficient", program(bits(1), row(api.Le, 0, most)), rounding("-1099511627777/1099511627776"), api.ErrTooLarge},
		{"a coefficient beyond every int64", program(bits(1), row(api.Ge, 0, most)), rounding("100000000000000000000"), api.ErrTooLarge},
		{"a coefficient that is 1 as an int64", program(bits(1), row(api.Ge, 0, 1)), rounding("18446744073709551617"), api.ErrTooLarge},
		{"a bound", program(bits(1), row(api.Ge, most, 1)), rounding("1099511627777/1099511627776"), api.ErrTooLarge},
		{"a negative bound", program(bits(1), row(api.Le, most, 0)), rounding("-1099511627777/1099511627776"), api.ErrTooLarge},
		{"a bound beyond every int64", program(bits(1), row(api.Ge, most)), rounding("100000000000000000000"), api.ErrTooLarge},
		{"the bound by Lower", program(slices.Repeat(far[1:], 2), row(api.Ge, 2, 3, 3)), rounding("1/2"), api.ErrTooLarge},
		{"more than rounded up", program(bits(1), row(api.Le, 0, most), row(api.Le, 0, 1)), rounding("-1", "-1"), api.ErrTooLarge},
	})
}

// definedRound returns the row and the error that the definition of CutRound gives for a well-formed cut.
func definedRound(p api.Program, y []api.Rat) (api.Row, api.Errno) {
	line := api.Row{Name: "cut", Kind: api.Ge}
	coefs, bound, base := []*big.Rat{}, new(big.Rat), new(big.Int)
	for range p.Vars {
		coefs = append(coefs, new(big.Rat))
	}
	for i, r := range p.Rows {
		m := at(y, i)
		if r.Kind == api.Le && m.Sign() > 0 || r.Kind == api.Ge && m.Sign() < 0 {
			return api.Row{}, api.ErrRejected
		}
		bound.Add(bound, times(m, r.Bound))
		for _, term := range r.Terms {
			coefs[term.Var].Add(coefs[term.Var], times(m, term.Coef))
		}
	}
	large := false
	for i, v := range p.Vars {
		bound.Sub(bound, times(coefs[i], v.Lower))
		if !v.Integer {
			if coefs[i].Sign() > 0 {
				return api.Row{}, api.ErrRejected
			}
			continue
		}
		rounded := ceil(coefs[i])
		base.Add(base, new(big.Int).Mul(rounded, big.NewInt(v.Lower)))
		large = large || exceeds(rounded)
		if rounded.Sign() != 0 {
			line.Terms = append(line.Terms, api.Term{Var: i, Coef: rounded.Int64()})
		}
	}
	base.Add(base, ceil(bound))
	if large || exceeds(base) {
		return api.Row{}, api.ErrTooLarge
	}
	line.Bound = base.Int64()
	return line, api.OK
}

// extreme returns the least value of terms within the bounds, but with some variables fixed to 1, or nil. With the sign -1 it is the greatest value, with the other sign.
func extreme(vars []api.Var, terms []api.Term, sign int64, fixed []int) *big.Int {
	total := new(big.Int)
	for _, term := range terms {
		v, coef := vars[term.Var], sign*term.Coef
		if slices.Contains(fixed, term.Var) {
			v.Lower, v.Upper = 1, 1
		}
		end := v.Lower
		if coef < 0 {
			end = v.Upper
		}
		if coef < 0 && v.Open || v.Lower > v.Upper && !v.Open {
			return nil
		}
		total.Add(total, new(big.Int).Mul(big.NewInt(coef), big.NewInt(end)))
	}
	return total
}

// isCover reports whether variables form a cover of a row, as the chapter defines it.
func isCover(p api.Program, line api.Row, vars []int) bool {
	sign := int64(1)
	if line.Kind == api.Ge {
		sign = -1
	}
	least := extreme(p.Vars, line.Terms, sign, vars)
	return len(vars) > 0 && least != nil && least.Cmp(big.NewInt(sign*line.Bound)) > 0
}

// definedCover returns the row and the error that the definition of CutCover gives.
func definedCover(p api.Program, c api.Cut) (api.Row, api.Errno) {
	if c.Row >= len(p.Rows) || len(c.Vars) == 0 || slices.ContainsFunc(c.Vars, func(i int) bool { return !isBinary(p.Vars[i]) }) {
		return api.Row{}, api.ErrArg
	}
	if !isCover(p, p.Rows[c.Row], c.Vars) {
		return api.Row{}, api.ErrRejected
	}
	line := api.Row{Name: "cut", Kind: api.Le, Bound: int64(len(c.Vars) - 1)}
	for _, i := range c.Vars {
		line.Terms = append(line.Terms, api.Term{Var: i, Coef: 1})
	}
	return line, api.OK
}

// P7.1: random cuts.
func TestDeriveDefinition(t *testing.T) {
	counts := map[api.Errno]int{}
	programs(20000, func(r *rand.Rand, p api.Program) {
		c := randomCut(r, p)
		var want api.Row
		var wanted api.Errno
		if c.Kind == api.CutRound {
			want, wanted = definedRound(p, c.Multipliers)
		} else {
			want, wanted = definedCover(p, c)
		}
		line, err := cuts.Derive(p, c)
		if err != wanted || !equal(line, want) {
			t.Fatal(p, c, line, err, want, wanted)
		}
		counts[err]++
	})
	for _, err := range []api.Errno{api.OK, api.ErrArg, api.ErrRejected, api.ErrTooLarge} {
		if counts[err] < 100 {
			t.Error(err, counts)
		}
	}
}

// P7.1: Add returns the program with the row behind its rows.
func TestAdd(t *testing.T) {
	added := 0
	programs(3000, func(r *rand.Rand, p api.Program) {
		c := randomCut(r, p)
		line, wanted := cuts.Derive(p, c)
		q, err := cuts.Add(p, c)
		if err != wanted {
			t.Fatal(p, c, err, wanted)
		}
		if err != api.OK {
			if len(q.Vars)+len(q.Rows) > 0 {
				t.Fatal(p, c, q)
			}
			return
		}
		added++
		if !slices.Equal(q.Vars, p.Vars) || !slices.EqualFunc(q.Rows, append(slices.Clone(p.Rows), line), equal) {
			t.Fatal(p, c, q)
		}
	})
	if added < 1000 {
		t.Error("only", added)
	}
}

// P7.1 and the errors of Add: a program with as many rows as there may be.
func TestAddTooLarge(t *testing.T) {
	p := program(bits(3), slices.Repeat([]api.Row{row(api.Le, 7, 3, 4, 5)}, api.MaxRows)...)
	last := cover(api.MaxRows-1, 0, 2)
	if line, err := cuts.Derive(p, last); err != api.OK || text(p.Vars, line) != "cut (0): x0 + x2 <= 1" {
		t.Error(line, err)
	}
	if q, err := cuts.Add(p, last); err != api.ErrTooLarge || len(q.Vars)+len(q.Rows) > 0 {
		t.Error(err)
	}
	for cut, want := range map[int]api.Errno{api.MaxRows: api.ErrArg, 0: api.ErrRejected} {
		if _, err := cuts.Add(p, cover(cut, 0, 1)); err != want {
			t.Error(cut, err)
		}
	}
	p.Rows = p.Rows[:api.MaxRows-1]
	q, err := cuts.Add(p, cover(0, 0, 2))
	if err != api.OK || len(q.Rows) != api.MaxRows || text(q.Vars, q.Rows[api.MaxRows-1]) != "cut (0): x0 + x2 <= 1" {
		t.Error(err, len(q.Rows))
	}
	if _, err := cuts.Add(q, cover(0, 0, 2)); err != api.ErrTooLarge {
		t.Error(err)
	}
}
