package linear_test

import (
	"math"
	"math/big"
	"math/rand"
	"testing"

	"exodus/api"
	"exodus/linear"
	"exodus/rational"
)

// P4.3
func TestSigned(t *testing.T) {
	p := api.Program{Rows: []api.Row{{Kind: api.Le}, {Kind: api.Ge}, {Kind: api.Eq}, {Kind: 3}, {Kind: -1}}}
	for i, c := range []struct {
		y    []api.Rat
		want bool
	}{
		{nil, true}, {point(0, 0, 0, 0, 0), true}, {point(-1, 1, 5, 5, 5), true}, {point(-1, 1, -5, -5, -5), true}, {point(1), false}, {point(-1), true}, {point(0, -1), false}, {point(-3, 2), true}, {point(-1, -1), false}, {point(1, 1), false},
		{[]api.Rat{frac(1, 1<<40)}, false}, {[]api.Rat{{}, frac(-1, 1<<40)}, false}, {point(0, 0, 0, 0, 0, 9, -9), true}, {[]api.Rat{odd()[0]}, false}, {[]api.Rat{odd()[3], odd()[3]}, true}, {[]api.Rat{odd()[4], odd()[5]}, false},
	} {
		if got := linear.Signed(p, c.y); got != c.want {
			t.Error(i, got)
		}
	}
	programs(func(r *rand.Rand, p api.Program) {
		y := randomPoint(r, len(p.Rows))
		want := true
		for i, m := range values(y, len(p.Rows)) {
			want = want && !(p.Rows[i].Kind == api.Ge && m.Sign() < 0) && !(p.Rows[i].Kind == api.Le && m.Sign() > 0)
		}
		if got := linear.Signed(p, y); got != want {
			t.Fatal(p, y, got)
		}
	})
}

// combination returns the combination of rows without asking the package.
func combination(p api.Program, y []*big.Rat) ([]*big.Rat, *big.Rat) {
	coefs, bound := values(nil, len(p.Vars)), new(big.Rat)
	for i, row := range p.Rows {
		for _, term := range row.Terms {
			if term.Var >= 0 && term.Var < len(coefs) {
				coefs[term.Var].Add(coefs[term.Var], new(big.Rat).Mul(y[i], whole(term.Coef)))
			}
		}
		bound.Add(bound, new(big.Rat).Mul(y[i], whole(row.Bound)))
	}
	return coefs, bound
}

// P4.3
func TestCombine(t *testing.T) {
	check := func(p api.Program, y []api.Rat) {
		t.Helper()
		coefs, bound := linear.Combine(p, y)
		wantCoefs, wantBound := combination(p, values(y, len(p.Rows)))
		if len(coefs) != len(p.Vars) {
			t.Fatal(p, y, coefs)
		}
		for i, coef := range coefs {
			expect(t, "coefficient", coef, wantCoefs[i], p, y, i)
		}
		expect(t, "bound", bound, wantBound, p, y)
	}
	programs(func(r *rand.Rand, p api.Program) { check(p, randomPoint(r, len(p.Rows))) })
	check(api.Program{}, nil)
	check(api.Program{}, point(1, 2))
	check(example(), nil)
	check(example(), point(0, 5))
	check(example(), odd())
	check(oneRow(api.Row{Terms: []api.Term{{Var: 1, Coef: math.MinInt64}, {Var: 1, Coef: math.MinInt64}, {Var: -1, Coef: 1}, {Var: 3, Coef: 1}, {Var: math.MaxInt, Coef: 1}}, Bound: math.MinInt64}), point(-1))
}

// P4.3: the numbers of one combination, written out.
func TestCombination(t *testing.T) {
	p := example()
	p.Rows = append(p.Rows, api.Row{Kind: api.Ge, Terms: []api.Term{{Var: 1, Coef: 3}}, Bound: 5}, api.Row{Kind: api.Eq, Terms: terms(0, 1), Bound: 7})
	coefs, bound := linear.Combine(p, []api.Rat{frac(-1, 2), frac(2, 3), frac(1, 4), frac(9, 1)})
	for i, text := range []string{"-1/4", "13/4"} {
		if got := rational.Text(coefs[i]); got != text {
			t.Error(i, got)
		}
	}
	if got := rational.Text(bound); got != "73/12" || len(coefs) != 2 {
		t.Error(got, len(coefs))
	}
}

// P4.4
func TestLeast(t *testing.T) {
	p := api.Program{Vars: []api.Var{{Lower: -2, Upper: 3}, {Lower: 1, Open: true}, {Lower: 5, Upper: 5}}}
	for i, c := range []struct {
		coefs []api.Rat
		want  *big.Rat
	}{
		{nil, whole(0)}, {point(1), whole(-2)}, {point(-1), whole(-3)}, {point(1, 1), whole(-1)}, {point(0, 0, 2), whole(10)}, {point(0, 0, -2), whole(-10)}, {point(1, 1, 1, -100), whole(4)}, {point(1, -1), nil}, {point(0, -1, 0), nil},
		{[]api.Rat{frac(-1, 2), frac(1, 3), frac(1, 7)}, big.NewRat(-19, 42)}, {[]api.Rat{{}, frac(-1, 1<<40)}, nil}, {odd(), big.NewRat(-29, 2)}, {[]api.Rat{{}, odd()[3]}, whole(0)}, {[]api.Rat{{}, odd()[5]}, nil}, {[]api.Rat{odd()[5]}, big.NewRat(-3, 2)},
	} {
		got, ok := linear.Least(p, c.coefs)
		if ok != (c.want != nil) {
			t.Error(i, got, ok)
		}
		if c.want == nil {
			c.want = new(big.Rat)
		}
		expect(t, "least value", got, c.want, i)
	}
}

// P4.4: where nothing is within the bounds, where a variable is open, and where an open one has a number that counts for nothing.
func TestLeastOfBounds(t *testing.T) {
	empty, open, line := api.Var{Lower: 3, Upper: 2}, api.Var{Lower: 3, Open: true}, api.Var{Lower: 3, Upper: 8}
	for i, c := range []struct {
		vars  []api.Var
		coefs []api.Rat
		want  int64
		ok    bool
	}{
		{nil, nil, 0, true}, {nil, point(5), 0, true}, {[]api.Var{empty}, nil, 0, false}, {[]api.Var{empty}, point(1), 0, false}, {[]api.Var{line, empty}, point(1), 0, false}, {[]api.Var{empty, line}, point(0, 1), 0, false},
		{[]api.Var{open}, point(1), 3, true}, {[]api.Var{open}, nil, 0, true}, {[]api.Var{open}, point(-1), 0, false}, {[]api.Var{line, open}, point(1, -1), 0, false}, {[]api.Var{line, open}, point(-1, 1), -5, true}, {[]api.Var{empty, open}, point(1, -1), 0, false},
		{[]api.Var{{Lower: 3, Upper: -9, Open: true}}, point(2), 6, true}, {[]api.Var{{Lower: 3, Upper: 9, Open: true}}, point(-2), 0, false}, {[]api.Var{{Lower: 4, Upper: 4}}, point(-1), -4, true},
	} {
		got, ok := linear.Least(api.Program{Vars: c.vars}, c.coefs)
		if ok != c.ok {
			t.Error(i, got, ok)
		}
		expect(t, "least value", got, whole(c.want), i)
	}
	got, ok := linear.Least(oneVar(api.Var{Lower: math.MinInt64, Upper: math.MaxInt64}), point(2))
	expect(t, "least value", got, new(big.Rat).Mul(whole(2), whole(math.MinInt64)))
	if !ok {
		t.Error(ok)
	}
}

// P4.4: the value is that of the best corner, which is found here by trying all of them.
func TestLeastIsBest(t *testing.T) {
	programs(func(r *rand.Rand, p api.Program) {
		coefs := randomPoint(r, len(p.Vars))
		got, ok := linear.Least(p, coefs)
		want, exists := new(big.Rat), true
		for i, c := range values(coefs, len(p.Vars)) {
			v := p.Vars[i]
			low, high := new(big.Rat).Mul(c, whole(v.Lower)), new(big.Rat).Mul(c, whole(v.Upper))
			if v.Open {
				exists = exists && c.Sign() >= 0
				high = low
			} else {
				exists = exists && v.Lower <= v.Upper
			}
			if high.Cmp(low) < 0 {
				low = high
			}
			want.Add(want, low)
		}
		if !exists {
			want = new(big.Rat)
		}
		if ok != exists {
			t.Fatal(p, coefs, got, ok)
		}
		expect(t, "least value", got, want, p, coefs)
	})
}

// P4.7: multipliers that are signed, and points that violate no row.
func TestCombinationHolds(t *testing.T) {
	held := 0
	programs(func(r *rand.Rand, p api.Program) {
		x := []api.Rat{}
		for range p.Vars {
			x = append(x, frac(r.Int63n(13)-6, r.Int63n(3)+1))
		}
		y := []api.Rat{}
		for i, row := range p.Rows {
			p.Rows[i].Bound = roomFor(row, plain(row.Terms, values(x, len(p.Vars))))
			m := frac(r.Int63n(9), r.Int63n(4)+1)
			if row.Kind == api.Le || row.Kind != api.Ge && r.Intn(2) == 0 {
				m = rational.Neg(m)
			}
			y = append(y, m)
		}
		if !linear.Signed(p, y) || len(linear.Violated(p, x)) > 0 {
			return
		}
		held++
		coefs, bound := linear.Combine(p, y)
		total := rational.From(0)
		for i, coef := range coefs {
			total = rational.Add(total, rational.Mul(coef, x[i]))
		}
		if rational.Cmp(total, bound) < 0 {
			t.Fatal(p, x, y, total, bound)
		}
	})
	if held < 500 {
		t.Error("only", held, "programs had such a point")
	}
}

// roomFor returns a bound with which a row of the kinds Le and Ge is not violated by a point at which its terms have a value.
func roomFor(row api.Row, value *big.Rat) int64 {
	n, _ := value.Float64()
	switch {
	case math.Abs(n) > 1<<50:
		return row.Bound
	case row.Kind == api.Le:
		return int64(math.Ceil(n))
	}
	return int64(math.Floor(n))
}
