package duality_test

import (
	"math/big"
	"math/rand"
	"testing"

	"exodus/api"
	"exodus/duality"
	"exodus/rational"
	"exodus/simplex"
)

// checkBound fails unless Bound is as the chapter defines it.
func checkBound(t *testing.T, p api.Program, y []api.Rat) bool {
	t.Helper()
	got, ok := duality.Bound(p, y)
	want := bound(p, y, 1)
	if !rational.Valid(got) || ok != (want != nil) || ok && value(got).Cmp(want) != 0 || !ok && rational.Sign(got) != 0 {
		t.Fatal(p, y, got, ok, want)
	}
	return ok
}

// The example of the chapter.
func TestExample(t *testing.T) {
	for _, c := range []struct {
		multiplier int64
		text       string
		ok         bool
	}{{-1, "-7", true}, {0, "-9", true}, {1, "0", false}} {
		got, ok := duality.Bound(example(), list(c.multiplier))
		if rational.Text(got) != c.text || ok != c.ok {
			t.Error(c, got, ok)
		}
	}
}

// P6.1
func TestBound(t *testing.T) {
	p := cone()
	for i, c := range []struct {
		p    api.Program
		y    []api.Rat
		text string
	}{
		{example(), nil, "-9"}, {example(), list(-2), "-8"}, {example(), list(-1, 5, -5), "-7"}, {example(), []api.Rat{frac(-3, 2)}, "-15/2"}, {example(), []api.Rat{odd(-3, 2)}, "-15/2"}, {example(), []api.Rat{odd(-1, 0)}, "-7"}, {example(), []api.Rat{frac(1, 1<<40)}, "none"},
		{p, nil, "none"}, {p, list(-3), "none"}, {p, list(-2, 0), "none"}, {p, list(-3, 0, 7), "none"}, {p, list(0, -1), "none"}, {p, list(0, 2), "none"},
		{api.Program{}, nil, "0"}, {api.Program{}, list(3, -3), "0"}, {api.Program{Rows: []api.Row{row(api.Le, -4)}}, list(-2), "8"}, {api.Program{Rows: []api.Row{row(api.Le, -4)}}, list(2), "none"},
		{api.Program{Vars: []api.Var{{Lower: 1}}}, nil, "none"}, {api.Program{Vars: []api.Var{{Lower: 1, Open: true, Cost: 5}}}, nil, "5"}, {api.Program{Vars: []api.Var{{Lower: 1, Open: true, Cost: -5}}}, nil, "none"}, {api.Program{Vars: []api.Var{{Lower: 1, Open: true}}}, nil, "0"},
	} {
		got, ok := duality.Bound(c.p, c.y)
		text := rational.Text(got)
		if !ok {
			text = "none"
		}
		if text != c.text {
			t.Error(i, text)
		}
	}
	proved := 0
	programs(6000, func(r *rand.Rand, p api.Program) {
		if checkBound(t, p, fractions(r, len(p.Rows))) {
			proved++
		}
		checkBound(t, p, nil)
	})
	if proved < 300 {
		t.Error("only", proved, "bounds")
	}
}

// P6.1: multipliers and points by themselves, and what the simplex method finds with small changes.
func TestProofs(t *testing.T) {
	found := [3]int{}
	verify := func(p api.Program, x, y, ray []api.Rat) {
		t.Helper()
		for kind, c := range []struct{ got, want bool }{
			{duality.Optimal(p, x, y), optimal(p, x, y)}, {duality.Infeasible(p, y), infeasible(p, y)}, {duality.Unbounded(p, x, ray), unbounded(p, x, ray)},
		} {
			if c.got != c.want {
				t.Fatal(kind, c.got, p, x, y, ray)
			}
			if c.got {
				found[kind]++
			}
		}
	}
	programs(6000, func(r *rand.Rand, p api.Program) {
		verify(p, fractions(r, len(p.Vars)), fractions(r, len(p.Rows)), fractions(r, len(p.Vars)))
		o, _ := simplex.Solve(p)
		x, _, _ := simplex.Feasible(p)
		verify(p, x, o.Multipliers, o.Ray)
		verify(p, o.Point, o.Multipliers, o.Ray)
		verify(p, changed(r, o.Point), changed(r, o.Multipliers), changed(r, o.Ray))
		verify(p, o.Point, changed(r, o.Multipliers), changed(r, o.Ray))
		verify(p, changed(r, o.Point), o.Multipliers, o.Ray)
	})
	if min(found[0], found[1], found[2]) < 1000 {
		t.Error(found)
	}
}

// changed returns a list in which one fraction is another one, that is longer or shorter, or whose fractions are not in lowest terms.
func changed(r *rand.Rand, list []api.Rat) []api.Rat {
	out := append([]api.Rat{}, list...)
	switch r.Intn(4) {
	case 0:
		out = append(out, frac(r.Int63n(5)-2, 1), frac(1, 2))
	case 1:
		out = out[:max(0, len(out)-1)]
	case 2:
		for i, a := range out {
			if n, ok := rational.Int64(rational.Mul(a, rational.From(6))); ok {
				out[i] = odd(n, 6)
			}
		}
	default:
		if len(out) > 0 {
			i := r.Intn(len(out))
			out[i] = rational.Add(out[i], frac(r.Int63n(7)-3, 1+r.Int63n(2)))
		}
	}
	return out
}

// P6.1: the conditions of a proof of the optimum one by one.
func TestOptimal(t *testing.T) {
	p := example()
	for i, c := range []struct {
		x, y []api.Rat
		want bool
	}{
		{list(1, 3), list(-1), true}, {list(1, 3, 9), list(-1, -8), true}, {[]api.Rat{odd(2, 2), odd(3, 0)}, []api.Rat{odd(-4, 4)}, true},
		{list(1, 3), list(-2), false}, {list(1, 3), nil, false}, {list(1, 3), list(0), false}, {list(1, 3), list(1), false}, {list(3, 1), list(-1), false}, {list(2, 3), list(-1), false}, {list(0, 4), list(-1), false}, {list(-1, 4), list(-1), false}, {list(3, 2), list(-1), false},
		{[]api.Rat{frac(1, 2), frac(13, 4)}, list(-1), false}, {nil, list(-1), false}, {list(0, 3), list(-1), false},
	} {
		if got := duality.Optimal(p, c.x, c.y); got != c.want {
			t.Error(i, got)
		}
	}
	p.Vars[0].Cost, p.Vars[1].Cost, p.Rows = 1, 1, nil
	if !duality.Optimal(p, nil, nil) || !duality.Optimal(p, list(0), list(5)) || duality.Optimal(p, list(0, 1), nil) {
		t.Error("lists that are too short")
	}
	if !duality.Optimal(api.Program{}, nil, nil) || !duality.Optimal(api.Program{}, list(1), list(1)) || duality.Optimal(api.Program{Rows: []api.Row{row(api.Ge, 1)}}, nil, nil) {
		t.Error("no variables")
	}
}

// P6.1: the conditions of a proof of infeasibility one by one.
func TestInfeasible(t *testing.T) {
	p := example()
	p.Rows = append(p.Rows, row(api.Ge, 7, 1, 1))
	empty := api.Program{Vars: []api.Var{{Open: true}, {Lower: 3, Upper: 2}}, Rows: []api.Row{row(api.Le, 1, 1), row(api.Ge, 0, 0, 1)}}
	line := api.Program{Vars: []api.Var{{Lower: 3, Open: true}}, Rows: []api.Row{row(api.Le, 2, 1), row(api.Eq, 3, 1)}}
	for i, c := range []struct {
		p    api.Program
		y    []api.Rat
		want bool
	}{
		{p, list(-1, 1), true}, {p, list(0, 1), true}, {p, list(-1, 1, 7), true}, {p, []api.Rat{odd(-6, 2), odd(8, 2)}, true}, {p, list(-1), false}, {p, nil, false}, {p, list(1, 1), false}, {p, list(-1, -1), false}, {p, list(-7, 4), false}, {p, list(-3, 1), false}, {p, []api.Rat{frac(-3, 2), frac(1, 1)}, true}, {p, list(0, 0), false},
		{empty, nil, true}, {empty, list(0, 0), true}, {empty, list(-5, 3), true}, {empty, list(1), false}, {empty, list(0, -1), false},
		{line, list(-1), true}, {line, []api.Rat{frac(-1, 9)}, true}, {line, list(0), false}, {line, list(-1, 1), true}, {line, list(-1, 2), false}, {line, list(0, 1), false}, {line, list(0, -1), false}, {line, list(1), false},
		{api.Program{}, nil, false}, {api.Program{Rows: []api.Row{row(api.Eq, 0)}}, list(5), false}, {api.Program{Rows: []api.Row{row(api.Eq, 1)}}, list(5), true}, {api.Program{Rows: []api.Row{row(api.Eq, 1)}}, list(-5), false}, {api.Program{Rows: []api.Row{row(api.Eq, -1)}}, list(-5), true}, {api.Program{Rows: []api.Row{row(api.Eq, 1)}}, nil, false},
	} {
		if got := duality.Infeasible(c.p, c.y); got != c.want {
			t.Error(i, got)
		}
	}
}

// P6.1: the conditions of a proof of unboundedness one by one.
func TestUnbounded(t *testing.T) {
	p := cone()
	x := list(0, 0, 1)
	for i, c := range []struct {
		x, ray []api.Rat
		want   bool
	}{
		{x, list(1, 1), true}, {x, list(1, 1, 0), true}, {x, list(1, 1, 0, -4), true}, {x, []api.Rat{odd(2, 3), odd(4, 6)}, true}, {list(1, 0, 1, -1), list(2, 2), true}, {list(0, 0, 4), list(5, 5), true},
		{list(0, 0, 5), list(1, 1), false}, {nil, list(1, 1), false}, {list(2, 0, 1), list(1, 1), false}, {list(0, -3, 1), list(1, 1), false}, {list(-1, 0, 1), list(1, 1), false}, {list(0, 0, 0), list(1, 1), false},
		{x, nil, false}, {x, list(0, 0, 0), false}, {x, list(1, 0), false}, {x, list(1), false}, {x, list(0, 1), false}, {x, list(1, 2), false}, {x, list(1, 1, 1), false}, {x, list(1, 1, -1), false}, {x, list(-1, -1), false}, {x, list(-1, -2), false}, {x, list(2, 1), false}, {x, []api.Rat{frac(1, 1), frac(5, 4)}, true}, {x, []api.Rat{frac(1, 1), frac(3, 2)}, false},
	} {
		if got := duality.Unbounded(p, c.x, c.ray); got != c.want {
			t.Error(i, got, c)
		}
	}
	for kind, want := range map[int]bool{api.Le: false, api.Ge: true, api.Eq: false} {
		q := api.Program{Vars: []api.Var{{Open: true, Cost: -1}}, Rows: []api.Row{row(kind, 0, 1)}}
		if got := duality.Unbounded(q, nil, list(1)); got != want {
			t.Error(kind, got)
		}
	}
	if duality.Unbounded(api.Program{}, nil, nil) {
		t.Error("no variables")
	}
}

// P6.1: programs that are not valid have no proofs, whatever the lists are.
func TestNotValid(t *testing.T) {
	lists := [][]api.Rat{nil, list(-1), list(1, 3), list(0, 0, 1), list(1, 1), list(0, 1), list(-3, 0, 0)}
	for i, p := range broken() {
		for _, x := range lists {
			for _, y := range lists {
				b, ok := duality.Bound(p, y)
				if ok || value(b).Cmp(new(big.Rat)) != 0 || duality.Optimal(p, x, y) || duality.Infeasible(p, y) || duality.Unbounded(p, x, y) {
					t.Fatal(i, x, y)
				}
			}
		}
	}
}
