package linear

import (
	"maps"
	"slices"

	"exodus/api"
)

// Without returns a program without some row groups.
func Without(p api.Program, groups ...int) api.Program {
	dropped := map[int]bool{}
	for _, group := range groups {
		dropped[group] = group != 0
	}
	rows := []api.Row{}
	for _, row := range p.Rows {
		if !dropped[row.Group] {
			row.Terms = slices.Clone(row.Terms)
			rows = append(rows, row)
		}
	}
	return api.Program{Vars: slices.Clone(p.Vars), Rows: rows}
}

// Groups returns the row groups except 0 in increasing order.
func Groups(p api.Program) []int {
	found := map[int]bool{}
	for _, row := range p.Rows {
		if row.Group != 0 {
			found[row.Group] = true
		}
	}
	return slices.Sorted(maps.Keys(found))
}
