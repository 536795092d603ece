package cuts

import (
	"slices"

	"exodus/api"
	"exodus/integer"
	"exodus/linear"
	"exodus/rational"
)

// Separate returns cuts that a point violates.
func Separate(p api.Program, x []api.Rat) []api.Cut {
	if !linear.Valid(p) {
		return nil
	}
	list, order, at := []api.Cut{}, places(len(p.Vars), x), newPosition(x)
	for i, row := range p.Rows {
		if vars, ok := cover(p.Vars, row, order); ok && at.violates(notAll(vars)) {
			list = append(list, api.Cut{Kind: api.CutCover, Row: i, Vars: vars})
		}
		list = append(list, rounds(p.Vars, row, i, at)...)
	}
	return list
}

// rounds returns the cuts that a point violates among those that divide a row, with an index, by one of its coefficients.
func rounds(vars []api.Var, row api.Row, index int, at position) []api.Cut {
	f, ok := turned(vars, row)
	if !ok {
		return nil
	}
	list := []api.Cut{}
	for _, k := range sizes(row) {
		cut, err := f.divided(vars, k)
		if err == api.OK && at.violates(cut) {
			list = append(list, api.Cut{Kind: api.CutRound, Multipliers: single(row, index, k)})
		}
	}
	return list
}

// sizes returns the absolute values of at least 2 that coefficients of a row have, in increasing order.
func sizes(row api.Row) []int64 {
	list := []int64{}
	for _, term := range row.Terms {
		if size := max(term.Coef, -term.Coef); size >= 2 {
			list = append(list, size)
		}
	}
	slices.Sort(list)
	return slices.Compact(list)
}

// single returns the multipliers that divide a row with an index by k.
func single(row api.Row, index int, k int64) []api.Rat {
	multipliers := make([]api.Rat, index+1)
	numerator := int64(1)
	if row.Kind == api.Le {
		numerator = -1
	}
	multipliers[index], _ = rational.Frac(numerator, k)
	return multipliers
}

// small is the greatest absolute value of a number with which every coefficient can be multiplied, so that the sum of MaxVars products stays within int64.
const small = 1 << 10

// position is a point of which the small integers, which most components are, can be multiplied without fractions.
type position struct {
	point []api.Rat
	whole map[int]int64
}

// newPosition returns the position of a point.
func newPosition(x []api.Rat) position {
	at := position{x, map[int]int64{}}
	for i, component := range x {
		if n, ok := rational.Int64(component); ok && n >= -small && n <= small {
			at.whole[i] = n
		}
	}
	return at
}

// violates reports whether a point violates the row of a cut.
func (at position) violates(row api.Row) bool {
	sum, others := int64(0), []api.Term{}
	for _, term := range row.Terms {
		if n, ok := at.whole[term.Var]; ok {
			sum += term.Coef * n
		} else {
			others = append(others, term)
		}
	}
	missing := api.Rat{Num: integer.Sub(integer.From(row.Bound), integer.From(sum))}
	order := rational.Cmp(linear.Dot(others, at.point), missing)
	return row.Kind == api.Le && order > 0 || row.Kind == api.Ge && order < 0
}
