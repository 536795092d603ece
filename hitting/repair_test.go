package hitting_test

import (
	"math"
	"math/rand"
	"reflect"
	"slices"
	"testing"

	"exodus/api"
	"exodus/hitting"
)

// repair fails unless Repair returns the given fields.
func repair(t *testing.T, p api.Program, groups []int, cores [][]int, point ...int64) {
	t.Helper()
	r, err := hitting.Repair(p)
	same := func(a, b []int) bool { return slices.Equal(a, b) }
	if err != api.OK || !slices.Equal(r.Groups, groups) || !slices.EqualFunc(r.Cores, cores, same) || !slices.Equal(r.Point, point) {
		t.Error(r, err)
	}
	if err := hitting.Check(p, r); err != api.OK {
		t.Error(r, err)
	}
}

// refused fails unless Repair returns an error, and nothing else.
func refused(t *testing.T, p api.Program, want api.Errno) {
	t.Helper()
	if r, err := hitting.Repair(p); err != want || !reflect.DeepEqual(r, api.Repair{}) {
		t.Error(r, err)
	}
}

// P13.2: the example of the chapter.
func TestExample(t *testing.T) {
	repair(t, example(), []int{1, 3}, [][]int{{3}, {1, 2}}, 0)
}

// P13.2: programs that have a solution as they are, also without groups, rows or variables.
func TestNothingToRepair(t *testing.T) {
	repair(t, program(nil), nil, nil)
	repair(t, program(bits(2, -3, 0)[:2]), nil, nil, 0, 1)
	repair(t, program(bits(2, -3), row(0, api.Ge, 1, 1)), nil, nil, 1, 1)
	repair(t, program(bits(1, 1), row(3, api.Ge, 2, 1, 1), row(60, api.Le, 2, 1, 1)), nil, nil, 1, 1)
}

// P13.2: groups without which there is a solution, and the cores of the others.
func TestRepair(t *testing.T) {
	// One of the groups 2 and 9 has to go, and so have the groups 4 and 60, each for itself; the order of the rows does not matter.
	alone := []api.Row{row(60, api.Le, -1), row(9, api.Le, 0, 1), row(4, api.Eq, 1), row(2, api.Ge, 1, 1)}
	repair(t, program(bits(1), alone...), []int{2, 4, 60}, [][]int{{60}, {4}, {2, 9}}, 0)
	slices.Reverse(alone)
	repair(t, program(bits(-1), alone...), []int{2, 4, 60}, [][]int{{60}, {4}, {2, 9}}, 0)
	// Each two of three groups are a core.
	three := []api.Var{{Upper: 9, Integer: true, Cost: -1}}
	repair(t, program(three, row(1, api.Eq, 1, 1), row(2, api.Eq, 2, 1), row(3, api.Eq, 3, 1)), []int{1, 2}, [][]int{{2, 3}, {1, 3}, {1, 2}}, 3)
	// A group in two cores is better than one of each.
	repair(t, program(three, row(7, api.Ge, 5, 1), row(1, api.Le, 4, 1), row(2, api.Le, 3, 1)), []int{7}, [][]int{{2, 7}, {1, 7}}, 3)
	// Rows of group 0 stay, and rows of a group go together.
	repair(t, program(bits(3, 2), row(0, api.Ge, 1, 1, 1), row(1, api.Le, 0, 1), row(2, api.Le, 0, 0, 1), row(1, api.Le, 1, 1, 1)), []int{1}, [][]int{{1, 2}}, 1, 0)
	repair(t, program(bits(-3, -2), row(5, api.Le, -1), row(0, api.Le, 1, 1, 1), row(5, api.Le, 0, 1), row(6, api.Le, 5, 9, 1)), []int{5}, [][]int{{5}}, 0, 1)
}

// P13.2: the section Definitions on many programs, and a point of the least cost.
func TestRepairs(t *testing.T) {
	sizes := map[int]int{}
	programs(2500, func(_ *rand.Rand, p api.Program) {
		groups, cores, found := repairOf(p)
		if !found {
			refused(t, p, api.ErrInfeasible)
			return
		}
		r, err := hitting.Repair(p)
		if err != api.OK || !slices.Equal(r.Groups, groups) || !slices.EqualFunc(r.Cores, cores, func(a, b []int) bool { return slices.Equal(a, b) }) {
			t.Fatal(p, r, err, groups, cores)
		}
		cost, want := int64(0), int64(0)
		for i, v := range p.Vars {
			cost += v.Cost * r.Point[i]
		}
		if want, _ = cheapest(p, groups); !solution(p, groups, r.Point) || cost != want {
			t.Fatal(p, r, want)
		}
		sizes[len(groups)]++
	})
	if sizes[0] < 50 || sizes[1] < 50 || sizes[2] < 50 || sizes[3] < 10 {
		t.Error("too few repairs of some size", sizes)
	}
}

// P13.4: what comes before the groups of a repair leaves no solution, and Check accepts the repair.
func TestOrder(t *testing.T) {
	programs(1500, func(_ *rand.Rand, p api.Program) {
		r, err := hitting.Repair(p)
		if err != api.OK {
			return
		}
		if err := hitting.Check(p, r); err != api.OK {
			t.Fatal(p, r, err)
		}
		for _, set := range subsets(groupsOf(p)) {
			_, found := cheapest(p, set)
			if found != slices.Equal(set, r.Groups) {
				t.Fatal(p, r, set)
			}
			if found {
				return
			}
		}
		t.Fatal("the groups are not groups of the program", p, r)
	})
}

// P1 and P13.2: the greatest number of groups, each two of which are a core or have nothing to do with each other.
func TestManyGroups(t *testing.T) {
	p, groups := program(bits(make([]int64, 30)...)), []int{}
	for v := range p.Vars {
		coefs := make([]int64, 30)
		coefs[v] = 1
		p.Rows = append(p.Rows, row(2*v+1, api.Le, 0, coefs...), row(2*v+2, api.Ge, 1, coefs...))
		groups = append(groups, 2*v+1)
	}
	r, err := hitting.Repair(p)
	if err != api.OK || !slices.Equal(r.Groups, groups) || len(r.Cores) != 30 || hitting.Check(p, r) != api.OK {
		t.Error(r, err)
	}
}

// P1 and the section Errors: no integer programs.
func TestNoProgram(t *testing.T) {
	for _, p := range broken() {
		refused(t, p, api.ErrArg)
		if len(p.Rows) <= api.MaxRows {
			refused(t, full(p, 1), api.ErrArg)
		}
		check(t, p, api.ErrArg, nil, nil, make([]int64, len(p.Vars))...)
		check(t, p, api.ErrArg, []int{1}, [][]int{{1, 2}}, 0)
	}
}

// The section Errors: rows of group 0 without a solution, be there other groups or not.
func TestInfeasible(t *testing.T) {
	fixed := []api.Row{row(0, api.Ge, 3, 1, 1), row(1, api.Le, 0, 1), row(2, api.Ge, 1, 1)}
	refused(t, program(bits(1, 1), fixed...), api.ErrInfeasible)
	refused(t, program(bits(1, 1), fixed[0]), api.ErrInfeasible)
	refused(t, program(nil, row(0, api.Ge, 1)), api.ErrInfeasible)
	refused(t, program([]api.Var{{Lower: 1, Integer: true}}), api.ErrInfeasible)
	refused(t, program(bits(api.MaxCoef), row(0, api.Ge, 2, 1)), api.ErrInfeasible)
	refused(t, full(program(bits(1, 1), fixed...), 4), api.ErrInfeasible)
	refused(t, full(program(bits(1, 1), fixed[0]), 0), api.ErrInfeasible)
}

// The section Errors: programs with costs or rows that are beyond the limits.
func TestTooLarge(t *testing.T) {
	refused(t, program(bits(api.MaxCoef)), api.ErrTooLarge)
	refused(t, program(bits(api.MaxCoef-1, 1), row(1, api.Ge, 2, 1)), api.ErrTooLarge)
	repair(t, program(bits(api.MaxCoef-1, 0), row(1, api.Ge, 2, 1)), []int{1}, [][]int{{1}}, 0, 0)
	refused(t, full(example(), 0), api.ErrTooLarge)
	refused(t, full(example(), 7), api.ErrTooLarge)
	refused(t, full(program(nil), 0), api.ErrTooLarge)
	less := full(example(), 7)
	less.Rows = less.Rows[1:]
	repair(t, less, []int{1, 3}, [][]int{{3}, {1, 2}}, 0)
}

// The section Errors: a search that is too long comes after errors that can be found without it.
func TestLimit(t *testing.T) {
	t.Parallel()
	no := row(0, api.Ge, 1)
	refused(t, hard(5, no), api.ErrInfeasible)
	costly := hard(0)
	costly.Vars[0].Cost = api.MaxCoef
	// There is a solution, but the cheapest one is hard to find.
	cheap := hard(5)
	cheap.Rows[0].Kind = api.Le
	for i, term := range cheap.Rows[0].Terms {
		cheap.Vars[i].Cost = -term.Coef
	}
	wrong := hard(0)
	wrong.Vars[19].Integer = false
	refused(t, wrong, api.ErrArg)
	for name, c := range map[string]struct {
		p    api.Program
		want api.Errno
	}{
		"group 0": {hard(0), api.ErrLimit}, "a group": {hard(5), api.ErrLimit}, "later": {hard(5, row(6, api.Ge, 1)), api.ErrLimit}, "cheapest": {cheap, api.ErrLimit},
		"costs": {costly, api.ErrTooLarge}, "rows": {full(hard(0), 0), api.ErrTooLarge},
	} {
		t.Run(name, func(t *testing.T) {
			t.Parallel()
			refused(t, c.p, c.want)
		})
	}
}

// The section Errors: programs with as many rows as there may be have a solution or not, whichever row is the last one.
func TestFull(t *testing.T) {
	counts := map[api.Errno]int{}
	judge := func(p api.Program) {
		for i := range p.Rows {
			p.Rows[i].Group = 0
		}
		want := api.ErrInfeasible
		if solvable(p, nil) {
			want = api.ErrTooLarge
		}
		refused(t, full(p, 0), want)
		counts[want]++
	}
	programs(40, func(_ *rand.Rand, p api.Program) { judge(p) })
	r := rand.New(rand.NewSource(5))
	for range 40 {
		wide := []api.Var{{Lower: -20, Upper: r.Int63n(20), Integer: true}, {Upper: 5 + r.Int63n(20), Integer: true}}
		a, b, c, d, x, y := r.Int63n(9)+1, r.Int63n(9)-4, r.Int63n(9)-4, r.Int63n(9)+1, r.Int63n(20)-20, r.Int63n(6)
		judge(program(wide, row(0, api.Eq, a*x+b*y, a, b), row(0, r.Intn(3), c*x+d*y+r.Int63n(3)-1, c, d)))
	}
	if counts[api.ErrTooLarge] < 20 || counts[api.ErrInfeasible] < 10 {
		t.Error("too few programs of a kind", counts)
	}
}

// The last sentence of the guarantees: arguments stay as they are, and results have memory of their own.
func TestMemory(t *testing.T) {
	programs(400, func(r *rand.Rand, p api.Program) {
		before := program(slices.Clone(p.Vars), slices.Clone(p.Rows)...)
		for i, line := range before.Rows {
			before.Rows[i].Terms = slices.Clone(line.Terms)
		}
		first, err := hitting.Repair(p)
		if err != api.OK {
			return
		}
		again, _ := hitting.Repair(p)
		kept := slices.Clone(again.Cores)
		for i, core := range kept {
			kept[i] = slices.Clone(core)
		}
		hitting.Check(p, again)
		groups, point := slices.Clone(again.Groups), slices.Clone(again.Point)
		for _, list := range append(first.Cores, first.Groups) {
			for i := range list {
				list[i] = math.MinInt
			}
			_ = append(list, math.MinInt)
		}
		for i := range first.Point {
			first.Point[i] = math.MinInt64
		}
		third, _ := hitting.Repair(p)
		if !reflect.DeepEqual(third.Cores, again.Cores) || !slices.Equal(third.Groups, groups) || !slices.Equal(again.Groups, groups) || !slices.Equal(again.Point, point) || !slices.EqualFunc(again.Cores, kept, func(a, b []int) bool { return slices.Equal(a, b) }) {
			t.Fatal("results have changed", p)
		}
		if !slices.Equal(p.Vars, before.Vars) || len(p.Rows) > 0 && !reflect.DeepEqual(p.Rows, before.Rows) {
			t.Fatal("arguments have changed", p)
		}
	})
	families(400, func(r *rand.Rand, sets [][]int) {
		before := slices.Clone(sets)
		for i, set := range before {
			sets[i] = append(slices.Clone(set), 77)[:len(set)]
		}
		least, _ := hitting.Least(sets)
		hitting.Hits(append(least, 78)[:len(least)], sets)
		for i := range least {
			least[i] = math.MinInt
		}
		for i, set := range before {
			if !slices.Equal(sets[i], set) || sets[i][:len(set)+1][len(set)] != 77 {
				t.Fatal("arguments have changed", sets)
			}
		}
	})
}
