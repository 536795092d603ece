package hitting

import (
	"slices"

	"exodus/api"
	"exodus/branch"
	"exodus/cores"
	"exodus/proof"
)

// whole reports whether a program is an integer program. (That no nodes are no proof of it is another error.)
func whole(p api.Program) bool {
	return proof.Check(p, nil) != api.ErrArg
}

// tooLarge reports whether branch.Solve does not take a program, because of its rows or its costs.
func tooLarge(p api.Program) bool {
	_, err := branch.Solve(api.Program{Vars: p.Vars})
	return len(p.Rows) == api.MaxRows || err == api.ErrTooLarge
}

// solves reports whether a point is a solution of an integer program. The searches have bounds that leave only this point.
func solves(p api.Program, point []int64) bool {
	if len(point) != len(p.Vars) {
		return false
	}
	vars := []api.Var{}
	for i, v := range p.Vars {
		if point[i] < v.Lower || point[i] > v.Upper {
			return false
		}
		vars = append(vars, api.Var{Lower: point[i], Upper: point[i], Integer: true})
	}
	for rows := range slices.Chunk(p.Rows, api.MaxRows-1) {
		if a, _ := branch.Solve(api.Program{Vars: vars, Rows: rows}); !a.Found {
			return false
		}
	}
	return true
}

// solvable reports whether the part of a program for some groups has a solution.
func solvable(p api.Program, groups ...int) (bool, api.Errno) {
	found, err := cores.Feasible(p, groups...)
	if err == api.ErrTooLarge {
		// The part has all rows of the program.
		return crowded(p)
	}
	return found, err
}

// crowded reports whether a program with one row more than branch.Solve takes has a solution. It is split between a solution of the other rows and one of the last row, until one of them satisfies all rows.
func crowded(p api.Program) (bool, api.Errno) {
	end, splits := len(p.Rows)-1, 0
	var search func(vars []api.Var) (bool, api.Errno)
	search = func(vars []api.Var) (bool, api.Errno) {
		most, last := api.Program{Vars: vars, Rows: p.Rows[:end]}, api.Program{Vars: vars, Rows: p.Rows[end:]}
		a, err := branch.Solve(most)
		if err != api.OK || !a.Found || solves(last, a.Point) {
			return a.Found, err
		}
		b, err := branch.Solve(last)
		if err != api.OK || !b.Found || solves(most, b.Point) {
			return b.Found, err
		}
		splits++
		if splits > api.MaxBranch {
			return false, api.ErrLimit
		}
		v := 0
		for a.Point[v] == b.Point[v] {
			v++
		}
		low, high, _ := branch.Split(last, v, min(a.Point[v], b.Point[v]))
		found, err := search(low.Vars)
		if err != api.OK || found {
			return found, err
		}
		return search(high.Vars)
	}
	vars := slices.Clone(p.Vars)
	for i := range vars {
		vars[i].Cost = 0
	}
	return search(vars)
}
