package columns

import (
	"slices"

	"exodus/api"
	"exodus/rational"
	"exodus/simplex"
)

// mostEffort is how much effort column generation may take. Exact weights and prices of many columns are long numbers, so that beyond this it is faster to solve the program as a whole.
const mostEffort = 1 << 20

// solve returns the outcome of a program with given costs, which may be any fractions, in place of its own, and false if this takes too many variables or rows for a program, or too much effort.
func (m *master) solve(p api.Program, costs []api.Rat) (api.Outcome, bool) {
	integers, scale := whole(costs)
	q := api.Program{Vars: slices.Clone(p.Vars), Rows: slices.Clip(p.Rows)}
	for i := range q.Vars {
		q.Vars[i].Cost = 0
	}
	for _, term := range spell(&q, integers) {
		q.Vars[term.Var].Cost = term.Coef
	}
	// So many numbers change if each line of a full tableau is exchanged once.
	lines := min(len(q.Rows), len(q.Vars))
	m.effort += lines * lines * len(q.Vars)
	if m.effort > mostEffort {
		return api.Outcome{}, false
	}
	o, err := simplex.Solve(q)
	if err != api.OK {
		return api.Outcome{}, false
	}
	o.Value, _ = rational.Div(o.Value, scale)
	o.Point = o.Point[:min(len(o.Point), len(p.Vars))]
	o.Multipliers = o.Multipliers[:len(p.Rows)]
	for i, y := range o.Multipliers {
		o.Multipliers[i], _ = rational.Div(y, scale)
	}
	return o, true
}
