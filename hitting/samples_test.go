package hitting_test

import (
	"math"
	"math/rand"
	"slices"

	"exodus/api"
)

// row returns a row of a group with the given coefficients of the variables 0, 1 and so on.
func row(group, kind int, bound int64, coefs ...int64) api.Row {
	line := api.Row{Name: "row", Group: group, Kind: kind, Bound: bound}
	for i, coef := range coefs {
		if coef != 0 {
			line.Terms = append(line.Terms, api.Term{Var: i, Coef: coef})
		}
	}
	return line
}

// bits returns binary variables with the given costs.
func bits(costs ...int64) []api.Var {
	vars := []api.Var{}
	for _, cost := range costs {
		vars = append(vars, api.Var{Upper: 1, Integer: true, Cost: cost})
	}
	return vars
}

// program returns a program.
func program(vars []api.Var, rows ...api.Row) api.Program {
	return api.Program{Vars: vars, Rows: rows}
}

// example returns the program of the chapter's example.
func example() api.Program {
	return program(bits(0), row(1, api.Ge, 1, 1), row(2, api.Le, 0, 1), row(3, api.Eq, 1, 2))
}

// full returns a program with as many rows as there may be, of which all but the given ones hold everywhere and are of one group.
func full(p api.Program, group int) api.Program {
	rows := slices.Repeat([]api.Row{row(group, api.Le, 0)}, api.MaxRows-len(p.Rows))
	return program(p.Vars, append(rows, p.Rows...)...)
}

// hard returns a program with a row of a group for which the search is too long, and the given rows.
func hard(group int, rows ...api.Row) api.Program {
	r := rand.New(rand.NewSource(6))
	total, coefs := int64(0), []int64{}
	for range 20 {
		coefs = append(coefs, 1+r.Int63n(1<<20))
		total += coefs[len(coefs)-1]
	}
	return program(bits(make([]int64, 20)...), append(rows, row(group, api.Eq, total/2, coefs...))...)
}

// numbers are the groups of random programs.
var numbers = []int{1, 2, 5, 7, 31, 60}

// random returns an integer program with few points and groups. Each row holds at one corner of the bounds, but mostly not at all of them.
func random(r *rand.Rand) api.Program {
	p, size := api.Program{}, []int64{1, 2, 9}[r.Intn(3)]
	for range 1 + r.Intn(4) {
		v := api.Var{Lower: r.Int63n(5) - 2, Integer: true, Cost: r.Int63n(9) - 4}
		v.Upper = v.Lower + 1 + r.Int63n(2)
		if r.Intn(80) == 0 {
			v.Upper = v.Lower - 1
		}
		p.Vars = append(p.Vars, v)
	}
	for range r.Intn(16) {
		coefs, bound := []int64{}, int64(0)
		for _, v := range p.Vars {
			coef := (r.Int63n(2*size+1) - size) * r.Int63n(2)
			coefs = append(coefs, coef)
			bound += coef * []int64{v.Lower, v.Upper}[r.Intn(2)]
		}
		group, kind := numbers[r.Intn(len(numbers))], r.Intn(7)/3
		if r.Intn(12) == 0 {
			group = 0
		}
		if r.Intn(9) == 0 {
			bound += r.Int63n(3) - 1
		}
		p.Rows = append(p.Rows, row(group, kind, bound, coefs...))
	}
	return p
}

// programs calls check for many programs.
func programs(count int, check func(r *rand.Rand, p api.Program)) {
	r := rand.New(rand.NewSource(1))
	for range count {
		check(r, random(r))
	}
}

// families calls check for many lists of sets.
func families(count int, check func(r *rand.Rand, sets [][]int)) {
	r := rand.New(rand.NewSource(2))
	universe := []int{math.MinInt, -40, -1, 0, 1, 2, 30, math.MaxInt}
	for range count {
		sets, size := [][]int{}, 1+r.Intn(5)
		for range r.Intn(12) {
			set := []int{}
			for range size + r.Intn(2) - r.Intn(2) {
				set = append(set, universe[r.Intn(len(universe))])
			}
			if len(set) > 0 || r.Intn(20) == 0 {
				sets = append(sets, set)
			}
		}
		check(r, sets)
	}
}

// hits reports whether a set has an element of each of some sets.
func hits(set []int, sets [][]int) bool {
	for _, other := range sets {
		if !slices.ContainsFunc(other, func(number int) bool { return slices.Contains(set, number) }) {
			return false
		}
	}
	return true
}

// subsets returns all sets of some numbers, which are in increasing order, in the order of the chapter.
func subsets(numbers []int) [][]int {
	list := [][]int{}
	for mask := range 1 << len(numbers) {
		set := []int{}
		for i, number := range numbers {
			if mask>>i&1 == 1 {
				set = append(set, number)
			}
		}
		list = append(list, set)
	}
	slices.SortFunc(list, func(a, b []int) int {
		if len(a) != len(b) {
			return len(a) - len(b)
		}
		return slices.Compare(a, b)
	})
	return list
}

// leastOf returns the least hitting set of some sets, as the chapter defines it.
func leastOf(sets [][]int) ([]int, bool) {
	universe := slices.Compact(slices.Sorted(slices.Values(slices.Concat(sets...))))
	for _, set := range subsets(universe) {
		if hits(set, sets) {
			return set, true
		}
	}
	return nil, false
}

// cheapest returns the least cost of the solutions of a program without the rows of some groups, and false if there are none.
func cheapest(p api.Program, groups []int) (int64, bool) {
	x, best, found := make([]int64, len(p.Vars)), int64(0), false
	var choose func(i int, cost int64)
	choose = func(i int, cost int64) {
		if i == len(x) {
			if solution(p, groups, x) && (!found || cost < best) {
				best, found = cost, true
			}
			return
		}
		for n := p.Vars[i].Lower; n <= p.Vars[i].Upper; n++ {
			x[i] = n
			choose(i+1, cost+n*p.Vars[i].Cost)
		}
	}
	choose(0, 0)
	return best, found
}

// solution reports whether a point is a solution of a program without the rows of some groups.
func solution(p api.Program, groups []int, x []int64) bool {
	if len(x) != len(p.Vars) {
		return false
	}
	for i, v := range p.Vars {
		if x[i] < v.Lower || x[i] > v.Upper {
			return false
		}
	}
	for _, line := range p.Rows {
		if line.Group != 0 && slices.Contains(groups, line.Group) {
			continue
		}
		sum := int64(0)
		for _, term := range line.Terms {
			sum += term.Coef * x[term.Var]
		}
		if line.Kind != api.Ge && sum > line.Bound || line.Kind != api.Le && sum < line.Bound {
			return false
		}
	}
	return true
}

// groupsOf returns the groups of a program, without group 0.
func groupsOf(p api.Program) []int {
	list := []int{}
	for _, line := range p.Rows {
		list = append(list, line.Group)
	}
	return minus(slices.Compact(slices.Sorted(slices.Values(list))), []int{0})
}

// minus returns the numbers that are not among others.
func minus(list, others []int) []int {
	return slices.DeleteFunc(slices.Clone(list), func(number int) bool { return slices.Contains(others, number) })
}

// solvable reports whether the part of a program for some groups has a solution.
func solvable(p api.Program, groups []int) bool {
	_, found := cheapest(p, minus(groupsOf(p), groups))
	return found
}

// repairOf returns the groups and the cores of the repair of a program, as the chapter defines them, and false if there is none.
func repairOf(p api.Program) ([]int, [][]int, bool) {
	all, cores := groupsOf(p), [][]int{}
	if !solvable(p, nil) {
		return nil, nil, false
	}
	for {
		groups, _ := leastOf(cores)
		if _, found := cheapest(p, groups); found {
			return groups, cores, true
		}
		core := minus(all, groups)
		for _, group := range slices.Clone(core) {
			if rest := minus(core, []int{group}); !solvable(p, rest) {
				core = rest
			}
		}
		cores = append(cores, core)
	}
}

// accepted reports whether Check has to accept a repair of an integer program.
func accepted(p api.Program, r api.Repair) bool {
	for _, core := range r.Cores {
		if len(minus(core, groupsOf(p))) > 0 || solvable(p, core) {
			return false
		}
	}
	least, ok := leastOf(r.Cores)
	return ok && slices.Equal(least, r.Groups) && solution(p, r.Groups, r.Point)
}

// broken returns programs that are no integer programs.
func broken() []api.Program {
	list := []api.Program{{Vars: make([]api.Var, 1)}, {Rows: make([]api.Row, api.MaxRows+1)}, {Vars: bits(make([]int64, api.MaxVars+1)...)}}
	for _, v := range []api.Var{{Upper: 1}, {Open: true, Integer: true}, {Lower: 1<<40 + 1, Integer: true}, {Cost: math.MinInt64, Integer: true}} {
		list = append(list, program(append(bits(1), v), row(0, api.Ge, 5)))
	}
	for _, line := range []api.Row{
		row(61, api.Le, 1, 1), row(-1, api.Le, 1, 1), row(5, 3, 1, 1), row(5, api.Le, 1, 0, 1), row(5, api.Le, math.MaxInt64, 1),
		{Group: 5, Name: "\x7f"}, {Group: 5, Terms: []api.Term{{}}}, {Group: 5, Terms: []api.Term{{Var: -1, Coef: 1}}},
	} {
		list = append(list, program(bits(1), row(1, api.Ge, 1, 1), row(2, api.Le, 0, 1), line))
	}
	return list
}
