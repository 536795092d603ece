package linear_test

import (
	"math"
	"math/big"
	"math/rand"
	"slices"
	"testing"

	"exodus/api"
	"exodus/linear"
	"exodus/rational"
)

// P4.2
func TestDot(t *testing.T) {
	long := []api.Term{{Var: 0, Coef: 2}, {Var: 2, Coef: -3}}
	for i, c := range []struct {
		terms []api.Term
		x     []api.Rat
		want  *big.Rat
	}{
		{nil, nil, whole(0)}, {nil, point(1, 2), whole(0)}, {long, nil, whole(0)}, {long, point(5), whole(10)}, {long, point(5, 7), whole(10)}, {long, point(5, 7, 1), whole(7)}, {long, point(5, 7, 1, 9), whole(7)},
		{[]api.Term{{Var: -1, Coef: 5}, {Var: math.MinInt, Coef: 5}, {Var: 2, Coef: 5}, {Var: math.MaxInt, Coef: 5}, {Var: 1, Coef: 1}}, point(1, 1), whole(1)},
		{[]api.Term{{Var: 1, Coef: 2}, {Var: 1, Coef: 3}, {Var: 0, Coef: 1}, {Var: 1, Coef: -1}}, point(10, 1), whole(14)},
		{[]api.Term{{Var: 0, Coef: 2}, {Var: 1, Coef: 2}, {Var: 2, Coef: 2}, {Var: 3, Coef: 2}, {Var: 4, Coef: 2}, {Var: 5, Coef: 2}}, odd(), whole(4)},
		{[]api.Term{{Var: 0, Coef: 0}}, point(4), whole(0)},
		{[]api.Term{{Var: 0, Coef: math.MinInt64}, {Var: 1, Coef: math.MaxInt64}}, point(-1, 1), new(big.Rat).SetInt(new(big.Int).SetUint64(math.MaxUint64))},
		{[]api.Term{{Var: 0, Coef: 1}, {Var: 1, Coef: 1}}, []api.Rat{frac(1, 3), frac(1, 6)}, big.NewRat(1, 2)},
	} {
		expect(t, "sum", linear.Dot(c.terms, c.x), c.want, i)
	}
	programs(func(r *rand.Rand, p api.Program) {
		x := randomPoint(r, len(p.Vars))
		for _, row := range p.Rows {
			expect(t, "sum", linear.Dot(row.Terms, x), plain(row.Terms, values(x, len(x))), row, x)
		}
	})
}

// P4.2
func TestCost(t *testing.T) {
	p := example()
	for i, c := range []struct {
		x    []api.Rat
		want *big.Rat
	}{
		{nil, whole(0)}, {point(5), whole(10)}, {point(5, 3), whole(7)}, {point(5, 3, 100), whole(7)}, {[]api.Rat{frac(1, 4), frac(-1, 3)}, big.NewRat(5, 6)}, {odd(), big.NewRat(9, 2)},
	} {
		expect(t, "cost", linear.Cost(p, c.x), c.want, i)
	}
	expect(t, "cost", linear.Cost(api.Program{}, point(1, 2)), whole(0))
	expect(t, "cost", linear.Cost(api.Program{Vars: []api.Var{{Cost: math.MinInt64}}}, point(-1)), new(big.Rat).SetInt(new(big.Int).SetUint64(1<<63)))
	programs(func(r *rand.Rand, p api.Program) {
		x := randomPoint(r, len(p.Vars))
		want := new(big.Rat)
		for i, component := range values(x, len(p.Vars)) {
			want.Add(want, new(big.Rat).Mul(whole(p.Vars[i].Cost), component))
		}
		expect(t, "cost", linear.Cost(p, x), want, p, x)
	})
}

// breaks reports whether a value violates a row.
func breaks(row api.Row, value *big.Rat) bool {
	order := value.Cmp(whole(row.Bound))
	return row.Kind == api.Le && order > 0 || row.Kind == api.Ge && order < 0 || row.Kind != api.Le && row.Kind != api.Ge && order != 0
}

// P4.2
func TestViolated(t *testing.T) {
	p := api.Program{Vars: make([]api.Var, 2)}
	for _, kind := range []int{api.Le, api.Ge, api.Eq, 3, -1, math.MaxInt} {
		p.Rows = append(p.Rows, api.Row{Kind: kind, Terms: terms(0, 1), Bound: 2})
	}
	p.Rows = append(p.Rows, api.Row{Kind: api.Le, Bound: -1}, api.Row{Kind: api.Ge, Bound: 0}, api.Row{Kind: api.Eq, Terms: []api.Term{{Var: 2, Coef: 9}, {Var: -1, Coef: 9}, {Var: 1, Coef: 1}, {Var: 1, Coef: 1}}, Bound: 2})
	for i, c := range []struct {
		x    []api.Rat
		want []int
	}{
		{point(1, 1), []int{6}}, {point(1, 1, 77), []int{6}}, {point(2), []int{6, 8}}, {nil, []int{1, 2, 3, 4, 5, 6, 8}}, {point(2, 1), []int{0, 2, 3, 4, 5, 6}}, {point(0, 1), []int{1, 2, 3, 4, 5, 6}},
		{[]api.Rat{frac(1, 2), frac(3, 2)}, []int{6, 8}}, {[]api.Rat{frac(1, 2), frac(5, 3)}, []int{0, 2, 3, 4, 5, 6, 8}}, {[]api.Rat{odd()[5], odd()[1]}, []int{1, 2, 3, 4, 5, 6, 8}},
	} {
		if got := linear.Violated(p, c.x); !slices.Equal(got, c.want) {
			t.Error(i, got, c.want)
		}
	}
	programs(func(r *rand.Rand, p api.Program) {
		x := randomPoint(r, len(p.Vars))
		want := []int{}
		for i, row := range p.Rows {
			if breaks(row, plain(row.Terms, values(x, len(p.Vars)))) {
				want = append(want, i)
			}
		}
		if got := linear.Violated(p, x); !slices.Equal(got, want) {
			t.Fatal(p, x, got, want)
		}
	})
}

// P4.2: points that lie on the bound of a row do not violate it, whatever its kind is.
func TestOnTheBound(t *testing.T) {
	programs(func(r *rand.Rand, p api.Program) {
		x := []api.Rat{}
		for range p.Vars {
			x = append(x, rational.From(r.Int63n(5)-2))
		}
		for i, row := range p.Rows {
			bound := plain(row.Terms, values(x, len(p.Vars)))
			if bound.Num().IsInt64() {
				p.Rows[i].Bound = bound.Num().Int64()
			}
		}
		for i, row := range p.Rows {
			if plain(row.Terms, values(x, len(p.Vars))).Cmp(whole(row.Bound)) == 0 && slices.Contains(linear.Violated(p, x), i) {
				t.Fatal(row, x)
			}
		}
	})
}

// within reports whether a point is within the bounds.
func within(p api.Program, x []*big.Rat) bool {
	for i, v := range p.Vars {
		if x[i].Cmp(whole(v.Lower)) < 0 || !v.Open && x[i].Cmp(whole(v.Upper)) > 0 {
			return false
		}
	}
	return true
}

// P4.2
func TestInside(t *testing.T) {
	p := example()
	for i, c := range []struct {
		x    []api.Rat
		want bool
	}{
		{nil, false}, {point(0), false}, {point(0, 1), true}, {point(3, 1), true}, {point(3, 1, -50), true}, {point(4, 1), false}, {point(-1, 1), false}, {point(0, 0), false}, {point(0, 1<<62), true},
		{[]api.Rat{frac(7, 2), frac(1, 1)}, false}, {[]api.Rat{frac(-1, 7), frac(1, 1)}, false}, {[]api.Rat{frac(1, 2), frac(6, 7)}, false}, {[]api.Rat{odd()[0], odd()[1]}, true},
	} {
		if got := linear.Inside(p, c.x); got != c.want {
			t.Error(i, got)
		}
	}
	for i, c := range []struct {
		v    api.Var
		x    []api.Rat
		want bool
	}{
		{api.Var{Lower: 2, Upper: 1}, point(1), false}, {api.Var{Lower: 2, Upper: 1}, point(2), false}, {api.Var{Lower: 2, Upper: 1}, []api.Rat{frac(3, 2)}, false}, {api.Var{Lower: 1, Upper: 0}, nil, false},
		{api.Var{Open: true, Upper: 2}, point(3), true}, {api.Var{Open: true, Upper: -2}, nil, true}, {api.Var{Lower: -1, Upper: -1}, nil, false}, {api.Var{Lower: math.MinInt64, Upper: math.MaxInt64}, point(math.MinInt64), true},
		{api.Var{Lower: 0, Upper: 1, Integer: true}, []api.Rat{frac(1, 2)}, true}, {api.Var{}, nil, true}, {api.Var{}, odd()[4:5], true},
	} {
		if got := linear.Inside(oneVar(c.v), c.x); got != c.want {
			t.Error(i, got)
		}
	}
	programs(func(r *rand.Rand, p api.Program) {
		x := randomPoint(r, len(p.Vars))
		if got := linear.Inside(p, x); got != within(p, values(x, len(p.Vars))) {
			t.Fatal(p, x, got)
		}
	})
}

// P4.2
func TestIntegral(t *testing.T) {
	p := api.Program{Vars: []api.Var{{Integer: true}, {}, {Integer: true, Open: true}}}
	half := frac(1, 2)
	part, _ := rational.Parse("36893488147419103233/2")
	huge, _ := rational.Parse("36893488147419103233")
	for i, c := range []struct {
		x    []api.Rat
		want bool
	}{
		{nil, true}, {point(1, 2, 3), true}, {[]api.Rat{half}, false}, {[]api.Rat{{}, half}, true}, {[]api.Rat{{}, half, frac(-3, 1)}, true}, {[]api.Rat{{}, half, frac(-7, 3)}, false}, {[]api.Rat{{}, {}, {}, half}, true},
		{odd()[:1], true}, {odd()[1:2], false}, {odd()[2:3], true}, {odd()[3:4], true}, {odd()[4:5], true}, {odd()[5:6], false}, {[]api.Rat{huge, part, huge}, true}, {[]api.Rat{{}, {}, part}, false},
	} {
		if got := linear.Integral(p, c.x); got != c.want {
			t.Error(i, got)
		}
	}
	programs(func(r *rand.Rand, p api.Program) {
		x := randomPoint(r, len(p.Vars))
		want := true
		for i, component := range values(x, len(p.Vars)) {
			want = want && (!p.Vars[i].Integer || component.IsInt())
		}
		if got := linear.Integral(p, x); got != want {
			t.Fatal(p, x, got)
		}
	})
}
