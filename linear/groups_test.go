package linear_test

import (
	"math"
	"math/rand"
	"reflect"
	"slices"
	"testing"

	"exodus/api"
	"exodus/linear"
)

// grouped returns a program with one row for each of the groups; its bound is the index of the row.
func grouped(groups ...int) api.Program {
	p := api.Program{Vars: []api.Var{{Upper: 1, Cost: 3}, {Open: true}}}
	for i, group := range groups {
		p.Rows = append(p.Rows, api.Row{Name: "row", Group: group, Kind: i % 3, Terms: terms(0, 1), Bound: int64(i)})
	}
	return p
}

// bounds returns the bounds of the rows.
func bounds(p api.Program) []int64 {
	list := []int64{}
	for _, row := range p.Rows {
		list = append(list, row.Bound)
	}
	return list
}

// P4.5
func TestWithout(t *testing.T) {
	p := grouped(3, 0, 1, 3, 60, 0, 2)
	for i, c := range []struct {
		groups []int
		left   []int64
	}{
		{nil, []int64{0, 1, 2, 3, 4, 5, 6}}, {[]int{0}, []int64{0, 1, 2, 3, 4, 5, 6}}, {[]int{3}, []int64{1, 2, 4, 5, 6}}, {[]int{3, 3}, []int64{1, 2, 4, 5, 6}}, {[]int{60, 0, 1}, []int64{0, 1, 3, 5, 6}}, {[]int{2, 1, 3, 60}, []int64{1, 5}},
		{[]int{0, 0, 2}, []int64{0, 1, 2, 3, 4, 5}}, {[]int{7, -1, 61, math.MinInt, math.MaxInt}, []int64{0, 1, 2, 3, 4, 5, 6}},
	} {
		got := linear.Without(p, c.groups...)
		if !slices.Equal(bounds(got), c.left) || !slices.Equal(got.Vars, p.Vars) {
			t.Error(i, got)
		}
		for _, row := range got.Rows {
			if !reflect.DeepEqual(row, p.Rows[row.Bound]) {
				t.Error(i, row)
			}
		}
	}
	if got := linear.Without(api.Program{}, 1); len(got.Vars)+len(got.Rows) != 0 {
		t.Error(got)
	}
	broken := grouped(-1, 61, -1, math.MinInt, 0)
	if got := linear.Without(broken, -1, math.MinInt); !slices.Equal(bounds(got), []int64{1, 4}) {
		t.Error(got)
	}
}

// P4.5
func TestGroups(t *testing.T) {
	for _, c := range []struct{ groups, want []int }{
		{nil, nil}, {[]int{0}, nil}, {[]int{0, 0, 0}, nil}, {[]int{5}, []int{5}}, {[]int{3, 0, 1, 3, 60, 0, 2, 1}, []int{1, 2, 3, 60}}, {[]int{10, 9, 8, 7, 6, 5}, []int{5, 6, 7, 8, 9, 10}},
		{[]int{61, -1, 0, math.MaxInt, -1, math.MinInt}, []int{math.MinInt, -1, 61, math.MaxInt}},
	} {
		if got := linear.Groups(grouped(c.groups...)); !slices.Equal(got, c.want) {
			t.Error(c.groups, got)
		}
	}
}

// P4.5: without all groups, nothing but group 0 is left; without one of them, all others are.
func TestGroupsAndWithout(t *testing.T) {
	programs(func(r *rand.Rand, p api.Program) {
		groups := linear.Groups(p)
		if !slices.IsSorted(groups) || slices.Contains(groups, 0) || len(linear.Groups(linear.Without(p, groups...))) != 0 {
			t.Fatal(p, groups)
		}
		for i, group := range groups {
			rest := slices.Delete(slices.Clone(groups), i, i+1)
			if got := linear.Groups(linear.Without(p, group)); !slices.Equal(got, rest) {
				t.Fatal(p, group, got)
			}
		}
	})
}
