package cores

import (
	"slices"

	"exodus/api"
	"exodus/branch"
	"exodus/linear"
)

// whole reports whether a program is an integer program.
func whole(p api.Program) bool {
	for _, v := range p.Vars {
		if !v.Integer || v.Open {
			return false
		}
	}
	return linear.Valid(p)
}

// search reports whether the part of a program for some groups has a solution. If it has none, it also returns the groups of the rows that the proof uses: there is none without the others, either.
func search(p api.Program, groups ...int) (bool, map[int]bool, api.Errno) {
	others := filtered(linear.Groups(p), func(group int) bool { return !slices.Contains(groups, group) })
	part := linear.Without(p, others...)
	for i := range part.Vars {
		part.Vars[i].Cost = 0
	}
	a, err := branch.Solve(part)
	if err != api.OK || a.Found {
		return a.Found, nil, err
	}
	return false, users(part, a.Proof), api.OK
}

// filtered returns the groups that a function keeps, in their order.
func filtered(groups []int, keep func(group int) bool) []int {
	list := []int{}
	for _, group := range groups {
		if keep(group) {
			list = append(list, group)
		}
	}
	return list
}

// without returns all groups but one.
func without(groups []int, group int) []int {
	return filtered(groups, func(other int) bool { return other != group })
}

// users returns the groups of the rows that a proof of a program uses.
func users(p api.Program, proof []api.Node) map[int]bool {
	groups := map[int]bool{}
	use := func(row int) {
		// The rows of cuts, which follow those of the program, come from the rows that the cuts use.
		if row < len(p.Rows) {
			groups[p.Rows[row].Group] = true
		}
	}
	for _, n := range proof {
		if n.Kind == api.NodeCut && n.Cut.Kind == api.CutCover {
			use(n.Cut.Row)
		}
		for _, multipliers := range [][]api.Rat{n.Multipliers, n.Cut.Multipliers} {
			for row, multiplier := range multipliers {
				if len(multiplier.Num.Mag) > 0 {
					use(row)
				}
			}
		}
	}
	return groups
}
