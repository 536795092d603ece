package branch_test

import (
	"math/rand"
	"reflect"
	"slices"
	"testing"

	"exodus/api"
	"exodus/branch"
)

// P8.1: the examples, and programs whose answers are known.
func TestSolve(t *testing.T) {
	wide := []api.Var{{Lower: -7, Upper: 9, Integer: true, Cost: -2}, {Lower: -5, Upper: 5, Integer: true, Cost: 3}}
	for _, c := range []struct {
		name  string
		p     api.Program
		value int64
		point []int64
	}{
		{"the example", example(), -8, []int64{1, 0, 1}},
		{"no rows", program(bits(2, -3, 0)), -3, []int64{0, 1, 0}},
		{"one point", program(box(4, 4, -3, 2)), -4, []int64{4, 4}},
		{"one point with a row", program(box(4, 4, -3, 2), row(api.Eq, 20, 2, 3)), -4, []int64{4, 4}},
		{"rounded down", program(box(0, 9, -1), row(api.Le, 7, 2)), -3, []int64{3}},
		{"rounded up", program(box(0, 9, 5), row(api.Ge, 7, 2)), 20, []int64{4}},
		{"equal", program(box(0, 9, 1, 1), row(api.Eq, 26, 3, 5)), 6, []int64{2, 4}},
		{"negative numbers", program(wide, row(api.Le, -3, 3, -4)), 1, []int64{-5, -3}},
		{"rows without terms", program(bits(-1), row(api.Le, 3), row(api.Eq, 0)), -1, []int64{1}},
		{"common divisor", program(bits(-6, -9, -15), row(api.Le, 8, 3, 4, 5)), -21, []int64{1, 0, 1}},
		{"great numbers", program(box(-api.MaxCoef, api.MaxCoef, 0, 0), row(api.Eq, 1, 2, 3), row(api.Ge, api.MaxCoef-4, 1)), 0, nil},
	} {
		a, _ := answered(t, c.p)
		if !a.Found || a.Value != c.value || c.point != nil && !slices.Equal(a.Point, c.point) {
			t.Error(c.name, a.Found, a.Value, a.Point)
		}
	}
}

// P8.1: programs without variables.
func TestNoVariables(t *testing.T) {
	for i, p := range []api.Program{{}, program(nil, row(api.Le, 3), row(api.Ge, 0), row(api.Eq, 0))} {
		if a, _ := answered(t, p); !a.Found || a.Value != 0 || len(a.Point) != 0 {
			t.Error(i, a)
		}
	}
	for i, p := range []api.Program{program(nil, row(api.Le, -1)), program(nil, row(api.Ge, 1)), program(nil, row(api.Le, 3), row(api.Eq, 2))} {
		if a, _ := answered(t, p); a.Found {
			t.Error(i, a)
		}
	}
}

// P8.1: programs without a solution.
func TestNoSolution(t *testing.T) {
	wide := box(-api.MaxCoef, api.MaxCoef, 0, 0)
	for i, p := range []api.Program{
		program(bits(0, 0), row(api.Eq, 1, 2, 2)),
		program(bits(4, -5), row(api.Eq, 1, 2, 2)),
		program(bits(1), row(api.Ge, 2, 1)),
		program(bits(1), row(api.Le, -1, 1)),
		program(box(0, 9, 1, 1), row(api.Eq, 7, 3, 5)),
		program(box(0, 5, 1, 1, 1), row(api.Eq, 1, 6, 10, 15), row(api.Ge, 3, 1, 1, 1)),
		program(wide, row(api.Eq, 1, 2, 4)),
		program(wide, row(api.Ge, 1, 3, 3), row(api.Le, 2, 3, 3)),
		program(box(1, 0, 1)),
		program(append(bits(1, 2), box(3, -3, 4)...), row(api.Le, 1, 1, 1)),
		program(append(bits(1, 2), box(3, -3, 0)...), row(api.Ge, 9, 1, 1)),
		program(slices.Concat(box(1, 0, 0), box(1, 0, 0)), row(api.Ge, 1)),
	} {
		if a, _ := answered(t, p); a.Found {
			t.Error(i, a)
		}
	}
}

// P8.1 and P8.4: random programs, compared with all points within the bounds. A solution is found exactly if there is one, and none costs less.
func TestSolveDefinition(t *testing.T) {
	kinds, found, lost := counts{}, 0, 0
	programs(4000, func(r *rand.Rand, p api.Program) {
		a, more := answered(t, p)
		least, ok := cheapest(p)
		if a.Found != ok || a.Value != least {
			t.Fatal(p, a, least, ok)
		}
		for i, n := range more {
			kinds[i] += n
		}
		if ok {
			found++
		} else {
			lost++
		}
	})
	if found < 1000 || lost < 1000 || slices.Min(kinds[:]) < 100 {
		t.Error(found, lost, kinds)
	}
}

// P8.1: programs for which many splits and cuts are needed.
func TestSolveHard(t *testing.T) {
	r := rand.New(rand.NewSource(2))
	kinds := counts{}
	for i := range 36 {
		p := knapsack(r, i%3, 9+i%4, 1+i%2, 40)
		a, more := answered(t, p)
		if least, ok := cheapest(p); a.Found != ok || a.Value != least {
			t.Fatal(p, a, least, ok)
		}
		for k, n := range more {
			kinds[k] += n
		}
	}
	if kinds[api.NodeSplit] < 100 || kinds[api.NodeCut] < 300 {
		t.Error(kinds)
	}
}

// P8.1: equal programs have equal answers, wherever they lie in memory.
func TestEqualAnswers(t *testing.T) {
	r := rand.New(rand.NewSource(3))
	for i := range 60 {
		p := knapsack(r, i%3, 8+i%4, 1+i%3, 30)
		first, _ := branch.Solve(p)
		again, _ := branch.Solve(copied(p))
		if !reflect.DeepEqual(first, again) {
			t.Fatal(p, first, again)
		}
	}
}

// P8.4: further rows never make the value smaller, and never make a solution.
func TestFurtherRows(t *testing.T) {
	changed := 0
	programs(2000, func(r *rand.Rand, p api.Program) {
		whole, _ := answered(t, p)
		p.Rows = p.Rows[:len(p.Rows)/2]
		part, _ := answered(t, p)
		if whole.Found && (!part.Found || whole.Value < part.Value) {
			t.Fatal(p, whole, part)
		}
		if whole.Found != part.Found || whole.Value != part.Value {
			changed++
		}
	})
	if changed < 200 {
		t.Error("only", changed)
	}
}

// P8.4: the program below the value has a solution, and that below the value minus 1 has none.
func TestBelowValue(t *testing.T) {
	programs(1000, func(r *rand.Rand, p api.Program) {
		a, _ := answered(t, p)
		if !a.Found {
			return
		}
		at, _ := branch.Below(p, a.Value)
		below, _ := branch.Below(p, a.Value-1)
		if b, _ := answered(t, at); !b.Found || b.Value != a.Value {
			t.Fatal(p, a, b)
		}
		if b, _ := answered(t, below); b.Found {
			t.Fatal(p, a, b)
		}
	})
}

// errors of Solve, with answers that are zero.
func fail(t *testing.T, name string, p api.Program, want api.Errno) {
	t.Helper()
	if a, err := branch.Solve(p); err != want || !nothing(a) {
		t.Error(name, err, a)
	}
}

// invalid returns programs that are not valid.
func invalid() []api.Program {
	return []api.Program{
		program(bits(1), row(3, 7, 3)),
		program(bits(1), row(api.Le, 7, 3, 4)),
		program(bits(1), row(api.Le, api.MaxCoef+1, 3)),
		program(bits(api.MaxCoef + 1)),
		program([]api.Var{{Upper: 1, Open: true, Integer: true}}),
		{Vars: make([]api.Var, api.MaxVars+1)},
		{Rows: make([]api.Row, api.MaxRows+1)},
	}
}

// P8.1 and the errors of Solve: what is no integer program.
func TestSolveArguments(t *testing.T) {
	for _, p := range invalid() {
		fail(t, "not valid", p, api.ErrArg)
	}
	most := slices.Repeat([]api.Row{row(api.Le, 1, 1)}, api.MaxRows)
	fail(t, "not Integer", program(append(bits(1), api.Var{Upper: 1})), api.ErrArg)
	fail(t, "not Integer with one value", program([]api.Var{{Lower: 1, Upper: 1}}), api.ErrArg)
	fail(t, "open", program(append(bits(1), api.Var{Open: true, Integer: true})), api.ErrArg)
	fail(t, "open, with as many rows as there may be", program([]api.Var{{Open: true, Integer: true}}, most...), api.ErrArg)
	fail(t, "not Integer, with great costs", program([]api.Var{{Upper: api.MaxCoef, Cost: api.MaxCoef}}), api.ErrArg)
	fail(t, "not Integer, without points", program([]api.Var{{Lower: 1}}), api.ErrArg)
}

// P8.1 and the errors of Solve: the limits of rows and of costs, at them and just beyond.
func TestSolveTooLarge(t *testing.T) {
	most := int64(api.MaxCoef)
	for _, c := range []struct {
		name string
		vars []api.Var
		want api.Errno
	}{
		{"one cost at the limit", bits(most - 1), api.OK},
		{"one cost beyond it", bits(most), api.ErrTooLarge},
		{"one negative cost at the limit", bits(1 - most), api.OK},
		{"one negative cost beyond it", bits(-most), api.ErrTooLarge},
		{"several at the limit", bits(most/2, 3-most/2, -1, 1), api.OK},
		{"several beyond it", bits(most/2, 3-most/2, -1, 2), api.ErrTooLarge},
		{"a great Upper at the limit", box(0, most-1, 1), api.OK},
		{"a great Upper beyond it", box(0, most, 1), api.ErrTooLarge},
		{"a small Lower at the limit", box(1-most, 1, -1), api.OK},
		{"a small Lower beyond it", box(-most, 1, 1), api.ErrTooLarge},
		{"the Lower counts", box(-3, 2, most/3), api.OK},
		{"the greater one counts", box(-3, 2, most/3+1), api.ErrTooLarge},
		{"a negative Upper", box(-3, -2, most/3+1), api.ErrTooLarge},
		{"without costs", box(-most, most, 0, 0), api.OK},
		{"sums beyond every int64", box(-most, most, slices.Repeat([]int64{most}, api.MaxVars)...), api.ErrTooLarge},
		{"a product that is 0 as an int64", box(0, 1<<32, 1<<32), api.ErrTooLarge},
		{"a Lower greater than its Upper at the limit", box(most-1, 0, 1), api.OK},
		{"a Lower greater than its Upper beyond it", box(most, 0, 1), api.ErrTooLarge},
		{"a Lower greater than its Upper elsewhere", append(box(1, 0, 1), bits(most-1)...), api.ErrTooLarge},
	} {
		if c.want != api.ErrTooLarge {
			answered(t, program(c.vars))
			continue
		}
		fail(t, c.name, program(c.vars), c.want)
	}
	rows := slices.Repeat([]api.Row{row(api.Le, 1, 1)}, api.MaxRows)
	fail(t, "rows", program(bits(1), rows...), api.ErrTooLarge)
	fail(t, "rows, without points", program(box(1, 0, 1), rows...), api.ErrTooLarge)
}

// P8.1: programs with nearly as many rows as there may be have no room for cuts.
func TestSolveRows(t *testing.T) {
	r := rand.New(rand.NewSource(4))
	for free := 1; free <= 3; free++ {
		for _, factor := range []int64{1, 6} {
			p := knapsack(r, api.Le, 11, 2, 50)
			for i := range p.Vars {
				p.Vars[i].Cost *= factor
			}
			least, found := cheapest(p)
			for len(p.Rows) < api.MaxRows-free {
				p.Rows = append(p.Rows, row(api.Le, 4, 1, 1, 1))
			}
			a, kinds := answered(t, p)
			if a.Found != found || a.Value != least || kinds[api.NodeSplit] == 0 || free == 1 && kinds[api.NodeCut] > 0 {
				t.Error(free, factor, a.Value, least, kinds)
			}
		}
	}
}

// P8.1: at most 500 integral points within the bounds are never too many.
func TestFewPoints(t *testing.T) {
	r := rand.New(rand.NewSource(5))
	for i := range 60 {
		p := knapsack(r, api.Eq, 8, 1+i%2, 1<<(10+i%20))
		if i%2 == 1 {
			p.Vars = box(-10, 11, numbers(r, 2, -9, 19)...)
			p.Rows = []api.Row{row(api.Eq, r.Int63n(9), numbers(r, 2, 1000, 5000)...)}
		}
		for k := range p.Vars {
			p.Vars[k].Cost %= 1 << 20
		}
		a, _ := answered(t, p)
		if least, ok := cheapest(p); a.Found != ok || a.Value != least {
			t.Fatal(p, a, least, ok)
		}
	}
}

// P8.1 and the errors of Solve: a search that is too long is given up, and nothing of it is returned.
func TestSolveLimit(t *testing.T) {
	r := rand.New(rand.NewSource(6))
	p := knapsack(r, api.Eq, 30, 1, 1<<34)
	for i := range p.Vars {
		p.Vars[i].Cost %= 1 << 30
	}
	fail(t, "limit", p, api.ErrLimit)
}
