package columns

import (
	"slices"

	"exodus/api"
	"exodus/duality"
	"exodus/linear"
	"exodus/rational"
)

// offer is a point that a part has for some prices.
type offer struct {
	part  part
	point []api.Rat
}

// generate returns the outcome of a program, and false if this takes programs that are too large or too much effort.
func generate(p api.Program, blocks []int) (api.Outcome, bool) {
	m := newMaster(p, blocks)
	if o, ok := m.begin(); !ok || o.Kind == api.Infeasible {
		return o, ok
	}
	m.program = free(p)
	lack, ok := m.improve(func(value, bound api.Rat) bool {
		return rational.Sign(value) == 0 || rational.Sign(bound) > 0
	})
	if !ok {
		return api.Outcome{}, false
	}
	if rational.Sign(lack.Value) > 0 {
		return api.Outcome{Kind: api.Infeasible, Multipliers: lack.Multipliers}, true
	}
	delete(m.columns, artificial)
	m.program = p
	return m.improve(func(value, bound api.Rat) bool { return rational.Cmp(value, bound) == 0 })
}

// free returns a program without its costs.
func free(p api.Program) api.Program {
	vars := slices.Clone(p.Vars)
	for i := range vars {
		vars[i].Cost = 0
	}
	return api.Program{Vars: vars, Rows: p.Rows}
}

// begin adds a column for each part, and the artificial one, or returns the outcome of the program if a part is infeasible.
func (m *master) begin() (api.Outcome, bool) {
	costs, x := m.costs(nil), make([]api.Rat, len(m.program.Vars))
	for k, own := range m.parts {
		o, ok := m.pricers[k](costs)
		if !ok {
			return api.Outcome{}, false
		}
		if o.Kind == api.Infeasible {
			o.Multipliers = spread(o.Multipliers, own.rows, len(m.program.Rows))
			return o, true
		}
		m.add(own, o.Point)
		for i, place := range own.vars {
			x[place] = o.Point[i]
		}
	}
	m.complete(x)
	return api.Outcome{}, true
}

// improve adds columns until the value of the master program, and the bound of the whole one that is proved, are as wanted. If no part has a point for less than its price, both are equal.
func (m *master) improve(wanted func(value, bound api.Rat) bool) (api.Outcome, bool) {
	for {
		best, ok := m.optimum()
		if !ok {
			return api.Outcome{}, false
		}
		y, cheaper, ok := m.ask(best.Multipliers)
		if !ok {
			return api.Outcome{}, false
		}
		bound, _ := duality.Bound(m.program, y)
		if wanted(best.Value, bound) {
			return api.Outcome{Value: best.Value, Point: m.mixture(best.Point), Multipliers: y}, true
		}
		for _, next := range cheaper {
			m.add(next.part, next.point)
		}
	}
}

// ask returns multipliers of all rows: those of the linking rows, and those by which the parts prove what their points cost at least. It also returns the points that cost less than the price of their part.
func (m *master) ask(list []api.Rat) ([]api.Rat, []offer, bool) {
	y, cheaper := spread(list, m.linking, len(m.program.Rows)), []offer{}
	costs := m.costs(y)
	for k, own := range m.parts {
		o, ok := m.pricers[k](costs)
		if !ok {
			return nil, nil, false
		}
		for i, place := range own.rows {
			y[place] = o.Multipliers[i]
		}
		if rational.Cmp(o.Value, list[len(m.linking)+k]) < 0 {
			cheaper = append(cheaper, offer{own, o.Point})
		}
	}
	return y, cheaper, true
}

// costs returns the costs of the variables without what multipliers of the rows pay for.
func (m *master) costs(y []api.Rat) []api.Rat {
	paid, _ := linear.Combine(m.program, y)
	list := []api.Rat{}
	for i, v := range m.program.Vars {
		list = append(list, rational.Sub(rational.From(v.Cost), paid[i]))
	}
	return list
}
