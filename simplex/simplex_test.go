package simplex_test

import (
	"math"
	"math/rand"
	"reflect"
	"slices"
	"testing"

	"exodus/api"
	"exodus/rational"
	"exodus/simplex"
)

// The example of the chapter.
func TestExample(t *testing.T) {
	p := example()
	o := solved(t, p)
	if o.Kind != api.Optimal || rational.Text(o.Value) != "-7" || !slices.Equal(texts(o.Point), []string{"1", "3"}) || !slices.Equal(texts(o.Multipliers), []string{"-1"}) {
		t.Error(o)
	}
	p.Rows = append(p.Rows, row(api.Ge, 7, 1, 1))
	if o := solved(t, p); o.Kind != api.Infeasible {
		t.Error(o)
	}
	if x, found, err := simplex.Feasible(p); len(x) != 0 || found || err != api.OK {
		t.Error(x, found, err)
	}
}

// P5.1: all outcomes are proved; many programs of each kind are among these.
func TestSolve(t *testing.T) {
	kinds := [3]int{}
	programs(12000, func(_ *rand.Rand, p api.Program) {
		kinds[solved(t, p).Kind]++
	})
	if slices.Min(kinds[:]) < 500 {
		t.Error(kinds)
	}
}

// P5.1: programs with so many variables and rows that the search is long.
func TestSolveLonger(t *testing.T) {
	r := rand.New(rand.NewSource(2))
	kinds := [3]int{}
	for i := range 150 {
		s := shape{5 + r.Intn(16), 5 + r.Intn(26), []int64{1, 3, 20, 1 << 34}[i%4], 1 + r.Intn(7), r.Intn(11)}
		if s.size > 20 {
			s.vars, s.rows = min(s.vars, 8), min(s.rows, 10)
		}
		kinds[solved(t, s.random(r)).Kind]++
	}
	if slices.Min(kinds[:]) < 5 {
		t.Error(kinds)
	}
}

// P5.2: a point is found exactly if the program without costs has an optimum.
func TestFeasible(t *testing.T) {
	found := [2]int{}
	programs(4000, func(_ *rand.Rand, p api.Program) {
		x, ok, err := simplex.Feasible(p)
		if err != api.OK || !ok && len(x) > 0 {
			t.Fatal(p, x, ok, err)
		}
		free := api.Program{Vars: slices.Clone(p.Vars), Rows: p.Rows}
		for i := range free.Vars {
			free.Vars[i].Cost = 0
		}
		if ok != (solved(t, free).Kind == api.Optimal) || ok != (solved(t, p).Kind != api.Infeasible) {
			t.Fatal(p, ok)
		}
		if !ok {
			found[0]++
			return
		}
		found[1]++
		if len(x) != len(p.Vars) || !feasible(p, values(x)) || slices.ContainsFunc(x, func(a api.Rat) bool { return !rational.Valid(a) }) {
			t.Fatal(p, x)
		}
	})
	if found[0] < 500 || found[1] < 500 {
		t.Error(found)
	}
}

// broken returns programs that are not valid.
func broken() []api.Program {
	many := func(vars, rows int) api.Program {
		return api.Program{Vars: make([]api.Var, vars), Rows: make([]api.Row, rows)}
	}
	list := []api.Program{many(401, 0), many(0, 4001)}
	for _, v := range []api.Var{{Upper: 1, Open: true}, {Lower: 1<<40 + 1}, {Upper: -1<<40 - 1}, {Cost: math.MinInt64}, {Upper: math.MaxInt64}} {
		list = append(list, api.Program{Vars: []api.Var{v}})
	}
	for _, line := range []api.Row{
		{Kind: 3}, {Kind: -1}, {Terms: terms(0, 1)}, {Terms: []api.Term{{Var: -1, Coef: 1}}}, {Terms: []api.Term{{Var: 0}}}, {Terms: []api.Term{{Coef: 1}, {Coef: 1}}},
		{Bound: 1<<40 + 1}, {Terms: terms(math.MinInt64)}, {Group: 61}, {Group: -1}, {Name: "\n"},
	} {
		list = append(list, api.Program{Vars: box(5, 1), Rows: []api.Row{line}})
	}
	return list
}

// P1 and the section Errors.
func TestErrors(t *testing.T) {
	for i, p := range broken() {
		if o, err := simplex.Solve(p); err != api.ErrArg || !reflect.DeepEqual(o, api.Outcome{}) {
			t.Error(i, o, err)
		}
		if x, found, err := simplex.Feasible(p); err != api.ErrArg || found || len(x) > 0 {
			t.Error(i, x, found, err)
		}
	}
}

// P5.3: also if the lists of the program are copies, and if empty ones are nil.
func TestEqualPrograms(t *testing.T) {
	programs(1500, func(_ *rand.Rand, p api.Program) {
		q := api.Program{Vars: append([]api.Var{}, p.Vars...), Rows: append([]api.Row{}, p.Rows...)}
		for i, line := range q.Rows {
			q.Rows[i].Terms = append([]api.Term{}, line.Terms...)
		}
		first, _ := simplex.Solve(p)
		second, _ := simplex.Solve(q)
		x, _, _ := simplex.Feasible(p)
		y, _, _ := simplex.Feasible(q)
		if !reflect.DeepEqual(first, second) || !reflect.DeepEqual(x, y) {
			t.Fatal(p, first, second, x, y)
		}
	})
}

// The last sentence of the guarantees: arguments stay as they are, and results have memory of their own.
func TestMemory(t *testing.T) {
	programs(1500, func(_ *rand.Rand, p api.Program) {
		before := api.Program{Vars: slices.Clone(p.Vars), Rows: slices.Clone(p.Rows)}
		for i, line := range p.Rows {
			before.Rows[i].Terms = slices.Clone(line.Terms)
		}
		first, _ := simplex.Solve(p)
		later, _ := simplex.Solve(p)
		x, _, _ := simplex.Feasible(p)
		again, _, _ := simplex.Feasible(p)
		list := slices.Concat([]api.Rat{first.Value}, first.Point, first.Multipliers, first.Ray, x)
		for i := range list {
			rest := texts(list[i+1:])
			overwrite(list[i])
			if !slices.Equal(texts(list[i+1:]), rest) {
				t.Fatal("results share memory", p)
			}
		}
		second, _ := simplex.Solve(p)
		y, _, _ := simplex.Feasible(p)
		if !reflect.DeepEqual(p, before) || !reflect.DeepEqual(second, later) || !reflect.DeepEqual(y, again) {
			t.Fatal("arguments or later results have changed", p)
		}
	})
}

// overwrite changes everything that can be reached from a fraction.
func overwrite(a api.Rat) {
	for _, digits := range []api.Nat{a.Num.Mag, a.Den} {
		for i := range digits[:cap(digits)] {
			digits[:cap(digits)][i] = 0xdeadbeef
		}
	}
}
