package cores_test

import (
	"math"
	"math/rand"
	"slices"

	"exodus/api"
)

// row returns a row of a group with the given coefficients of the variables 0, 1 and so on.
func row(group, kind int, bound int64, coefs ...int64) api.Row {
	line := api.Row{Name: "row", Group: group, Kind: kind, Bound: bound}
	for i, coef := range coefs {
		if coef != 0 {
			line.Terms = append(line.Terms, api.Term{Var: i, Coef: coef})
		}
	}
	return line
}

// bits returns binary variables with the given costs.
func bits(costs ...int64) []api.Var {
	vars := []api.Var{}
	for _, cost := range costs {
		vars = append(vars, api.Var{Upper: 1, Integer: true, Cost: cost})
	}
	return vars
}

// program returns a program.
func program(vars []api.Var, rows ...api.Row) api.Program {
	return api.Program{Vars: vars, Rows: rows}
}

// example returns the program of the chapter's example.
func example() api.Program {
	return program(bits(0), row(1, api.Ge, 1, 1), row(2, api.Le, 0, 1), row(3, api.Eq, 1, 2))
}

// fixed returns a program in which the rows of group 0 have no solution.
func fixed() api.Program {
	return program(bits(1, 1), row(0, api.Ge, 3, 1, 1), row(1, api.Le, 0, 1), row(2, api.Ge, 1, 1))
}

// random returns an integer program with few points and groups. Each row holds at one corner of the bounds, but mostly not at all of them.
func random(r *rand.Rand) api.Program {
	p, size := api.Program{}, []int64{1, 2, 9}[r.Intn(3)]
	for range r.Intn(5) {
		v := api.Var{Lower: r.Int63n(5) - 2, Integer: true, Cost: r.Int63n(9) - 4}
		v.Upper = v.Lower + 1 + r.Int63n(2)
		if r.Intn(80) == 0 {
			v.Upper = v.Lower - 1
		}
		p.Vars = append(p.Vars, v)
	}
	for range r.Intn(12) {
		coefs, bound := []int64{}, int64(0)
		for _, v := range p.Vars {
			coef := (r.Int63n(2*size+1) - size) * r.Int63n(2)
			coefs = append(coefs, coef)
			bound += coef * []int64{v.Lower, v.Upper}[r.Intn(2)]
		}
		group, kind := []int{0, 1, 2, 3, 7, 60, 1, 2, 3, 7, 60}[r.Intn(11)], r.Intn(7)/3
		if r.Intn(9) == 0 {
			bound += r.Int63n(3) - 1
		}
		p.Rows = append(p.Rows, row(group, kind, bound, coefs...))
	}
	return p
}

// knapsacks returns a program with binary variables whose rows bound weights from above and pairs of variables from below, all of which are groups of their own: its cores have proofs with covers.
func knapsacks(r *rand.Rand) (api.Program, []int) {
	p, groups := program(bits(0, 0, 0, 0, 0)), []int{}
	for i := range 2 + r.Intn(8) {
		coefs, total := make([]int64, 5), int64(0)
		if i < 2 {
			for k := range coefs {
				coefs[k] = 1 + r.Int63n(9)
				total += coefs[k]
			}
			p.Rows = append(p.Rows, row(i+1, api.Le, total/3, coefs...))
		} else {
			coefs[r.Intn(5)], coefs[r.Intn(5)] = 1, 1
			p.Rows = append(p.Rows, row(i+1, api.Ge, 1, coefs...))
		}
		groups = append(groups, i+1)
	}
	return p, groups
}

// choice returns some numbers of groups, in any order; some may be there twice, and some are those of no row.
func choice(r *rand.Rand) []int {
	list := []int{}
	for range r.Intn(10) {
		list = append(list, []int{0, 1, 2, 3, 7, 60, 1, 2, 3, 7, 60, 5, 61, -1}[r.Intn(14)])
	}
	return list
}

// programs calls check for many programs, and some groups of each.
func programs(count int, check func(p api.Program, groups []int)) {
	r := rand.New(rand.NewSource(1))
	for range count {
		p := random(r)
		groups := choice(r)
		if r.Intn(3) == 0 {
			groups = []int{60, 7, 3, 2, 1}
		}
		check(p, groups)
	}
}

// solvable reports whether some integral point within the bounds satisfies all rows of group 0 and of some groups.
func solvable(p api.Program, groups []int) bool {
	x := make([]int64, len(p.Vars))
	var choose func(i int) bool
	choose = func(i int) bool {
		if i == len(x) {
			return satisfies(p, groups, x)
		}
		for n := p.Vars[i].Lower; n <= p.Vars[i].Upper; n++ {
			x[i] = n
			if choose(i + 1) {
				return true
			}
		}
		return false
	}
	return choose(0)
}

// satisfies reports whether a point satisfies all rows of group 0 and of some groups.
func satisfies(p api.Program, groups []int, x []int64) bool {
	for _, line := range p.Rows {
		if line.Group != 0 && !slices.Contains(groups, line.Group) {
			continue
		}
		sum := int64(0)
		for _, term := range line.Terms {
			sum += term.Coef * x[term.Var]
		}
		if line.Kind != api.Ge && sum > line.Bound || line.Kind != api.Le && sum < line.Bound {
			return false
		}
	}
	return true
}

// set returns groups in increasing order, without repetitions and without group 0.
func set(groups []int) []int {
	list := slices.Compact(slices.Sorted(slices.Values(groups)))
	return slices.DeleteFunc(list, func(group int) bool { return group == 0 })
}

// without returns groups without one of them.
func without(groups []int, group int) []int {
	return slices.DeleteFunc(slices.Clone(groups), func(other int) bool { return other == group })
}

// coreOf returns the core of some groups, as the chapter defines it.
func coreOf(p api.Program, groups []int) []int {
	core := slices.DeleteFunc(set(groups), func(group int) bool {
		return !slices.ContainsFunc(p.Rows, func(line api.Row) bool { return line.Group == group })
	})
	for _, group := range slices.Clone(core) {
		if rest := without(core, group); !solvable(p, rest) {
			core = rest
		}
	}
	return core
}

// isCore reports whether some groups without group 0 are a core, as the chapter defines it.
func isCore(p api.Program, groups []int) bool {
	list := set(groups)
	for _, group := range list {
		if !solvable(p, without(list, group)) {
			return false
		}
	}
	return !solvable(p, list)
}

// broken returns programs that are no integer programs.
func broken() []api.Program {
	list := []api.Program{{Vars: make([]api.Var, 1)}, {Rows: make([]api.Row, api.MaxRows+1)}, {Vars: bits(make([]int64, api.MaxVars+1)...)}}
	for _, v := range []api.Var{{Upper: 1}, {Open: true, Integer: true}, {Lower: 1<<40 + 1, Integer: true}, {Cost: math.MinInt64, Integer: true}} {
		list = append(list, program(append(bits(1), v), row(1, api.Ge, 5)))
	}
	for _, line := range []api.Row{
		row(61, api.Le, 1, 1), row(-1, api.Le, 1, 1), row(5, 3, 1, 1), row(5, api.Le, 1, 0, 1), row(5, api.Le, math.MaxInt64, 1),
		{Group: 5, Name: "\x7f"}, {Group: 5, Terms: []api.Term{{}}}, {Group: 5, Terms: []api.Term{{Var: -1, Coef: 1}}},
	} {
		// The row is not part of the part for the groups 1 and 2.
		list = append(list, program(bits(1), row(1, api.Ge, 1, 1), row(2, api.Le, 0, 1), line))
	}
	return list
}
