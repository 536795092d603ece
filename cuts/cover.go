package cuts

import (
	"slices"

	"exodus/api"
	"exodus/integer"
	"exodus/linear"
	"exodus/rational"
)

// Cover returns a minimal cover of a row.
func Cover(p api.Program, row int, x []api.Rat) (api.Cut, bool) {
	if !linear.Valid(p) || row < 0 || row >= len(p.Rows) {
		return api.Cut{}, false
	}
	vars, ok := cover(p.Vars, p.Rows[row], places(len(p.Vars), x))
	if !ok {
		return api.Cut{}, false
	}
	return api.Cut{Kind: api.CutCover, Row: row, Vars: vars}, true
}

// places returns the places of n variables in the order in which they are taken: by their components at a point, the greatest first, equal ones by their indices.
func places(n int, x []api.Rat) []int {
	component := func(i int) api.Rat {
		if i < len(x) {
			return x[i]
		}
		return api.Rat{}
	}
	order := []int{}
	for i := range n {
		order = append(order, i)
	}
	slices.SortStableFunc(order, func(a, b int) int {
		return rational.Cmp(component(b), component(a))
	})
	list := make([]int, n)
	for place, i := range order {
		list[i] = place
	}
	return list
}

// cover returns the cover of a row for an order of variables, and false if there is none.
func cover(vars []api.Var, row api.Row, places []int) ([]int, bool) {
	beyond, ok := limit(vars, row)
	if !ok {
		return nil, false
	}
	candidates, total := []api.Term{}, int64(0)
	for _, term := range row.Terms {
		if binary(vars[term.Var]) {
			candidates = append(candidates, term)
			total += rise(row, term)
		}
	}
	// Most rows have no cover, and need no order.
	if len(candidates) == 0 || !beyond(total) {
		return nil, false
	}
	slices.SortFunc(candidates, func(a, b api.Term) int { return places[a.Var] - places[b.Var] })
	taken, sum := []int{}, int64(0)
	rises := map[int]int64{}
	for _, term := range candidates {
		taken, rises[term.Var] = append(taken, term.Var), rise(row, term)
		if sum += rises[term.Var]; beyond(sum) {
			break
		}
	}
	for i := len(taken) - 1; i >= 0 && len(taken) > 1; i-- {
		if rest := sum - rises[taken[i]]; beyond(rest) {
			taken, sum = slices.Delete(taken, i, i+1), rest
		}
	}
	slices.Sort(taken)
	return taken, true
}

// covers reports whether binary variables, at least one, form a cover of a row.
func covers(vars []api.Var, row api.Row, list []int) bool {
	beyond, ok := limit(vars, row)
	sum := int64(0)
	for _, term := range row.Terms {
		if _, found := slices.BinarySearch(list, term.Var); found {
			sum += rise(row, term)
		}
	}
	return ok && beyond(sum)
}

// limit returns a function that reports whether no point is left if the least sum of a row rises by an amount, and false if there is no least sum. The sum of a row of the kind Ge counts with the opposite sign. Only the variables of the row matter.
func limit(vars []api.Var, row api.Row) (func(amount int64) bool, bool) {
	room := integer.From(turn(row) * row.Bound)
	for _, term := range row.Terms {
		v, coef := vars[term.Var], turn(row)*term.Coef
		end := v.Lower
		if coef < 0 {
			end = v.Upper
		}
		if v.Open && coef < 0 || !v.Open && v.Lower > v.Upper {
			return nil, false
		}
		if end != 0 {
			room = integer.Sub(room, product(coef, end))
		}
	}
	return func(amount int64) bool { return integer.Cmp(integer.From(amount), room) > 0 }, true
}

// rise returns by how much the least sum of a row rises if the binary variable of a term is fixed to 1.
func rise(row api.Row, term api.Term) int64 {
	return max(0, turn(row)*term.Coef)
}

// turn returns the sign with which the sum of a row counts.
func turn(row api.Row) int64 {
	if row.Kind == api.Ge {
		return -1
	}
	return 1
}

// binary reports whether a variable is 0 or 1.
func binary(v api.Var) bool {
	return v.Integer && !v.Open && v.Lower == 0 && v.Upper == 1
}

// binaries reports whether a list consists of binary variables, at least one, in strictly increasing order.
func binaries(vars []api.Var, list []int) bool {
	last := -1
	for _, i := range list {
		if i <= last || i >= len(vars) || !binary(vars[i]) {
			return false
		}
		last = i
	}
	return len(list) > 0
}

// notAll returns the row by which variables are not all 1.
func notAll(list []int) api.Row {
	terms := []api.Term{}
	for _, i := range list {
		terms = append(terms, api.Term{Var: i, Coef: 1})
	}
	return derived(api.Le, terms, int64(len(list)-1))
}
