package columns

import (
	"maps"
	"slices"

	"exodus/api"
	"exodus/linear"
	"exodus/rational"
)

// artificial takes the place of the block of a column that belongs to none.
const artificial = -1

// column is a point of a block, times a scale that makes it integral, so that its sums and its cost are integers as well. To make up for the scale, its weight is divided by it.
type column struct {
	block int
	point []api.Rat // of all variables; those of other blocks are 0
	scale api.Rat
	sums  []api.Rat // of the linking rows
}

// pricer returns the outcome of a part for given costs of all variables, and false if this takes too much.
type pricer func(costs []api.Rat) (api.Outcome, bool)

// master is the program whose variables are the weights of columns. Its rows are the linking rows, and one for each part, by which the weights of its columns add up to 1.
type master struct {
	program api.Program // the whole program, with the costs that are to be least
	linking []int
	parts   []part
	pricers []pricer         // of the parts
	columns map[int][]column // of each block, and the artificial one
	effort  int
}

// newMaster returns the master program of a program, without columns.
func newMaster(p api.Program, blocks []int) *master {
	m := &master{program: p, linking: rowsOf(p, blocks, linking), columns: map[int][]column{}}
	for b := range maxBlock + 1 {
		if slices.Contains(blocks, b) {
			own := newPart(p, blocks, b)
			m.parts = append(m.parts, own)
			m.pricers = append(m.pricers, func(costs []api.Rat) (api.Outcome, bool) {
				return m.solve(own.program, pick(costs, own.vars))
			})
		}
	}
	return m
}

// add adds the column of a point of a part.
func (m *master) add(own part, x []api.Rat) {
	point, scale := whole(spread(x, own.vars, len(m.program.Vars)))
	c := column{block: own.block, point: point, scale: scale}
	for _, i := range m.linking {
		c.sums = append(c.sums, linear.Dot(m.program.Rows[i].Terms, point))
	}
	m.columns[own.block] = append(m.columns[own.block], c)
}

// complete adds the artificial column: what the linking rows lack at a point.
func (m *master) complete(x []api.Rat) {
	violated, missing := linear.Violated(m.program, x), []api.Rat{}
	for _, i := range m.linking {
		row, lack := m.program.Rows[i], api.Rat{}
		if slices.Contains(violated, i) {
			lack = rational.Sub(rational.From(row.Bound), linear.Dot(row.Terms, x))
		}
		missing = append(missing, lack)
	}
	sums, scale := whole(missing)
	m.columns[artificial] = []column{{block: artificial, scale: scale, sums: sums}}
}

// optimum returns an optimum of the master program, and false if this takes too much.
func (m *master) optimum() (api.Outcome, bool) {
	list, q := m.all(), api.Program{}
	for range list {
		q.Vars = append(q.Vars, api.Var{Open: true})
	}
	for _, i := range m.linking {
		row := m.program.Rows[i]
		q.Rows = append(q.Rows, api.Row{Kind: row.Kind, Bound: row.Bound})
	}
	for range m.parts {
		q.Rows = append(q.Rows, api.Row{Kind: api.Eq, Bound: 1})
	}
	for k := range len(m.linking) + len(m.parts) {
		// This may add rows, and so move the list of them.
		terms := spell(&q, each(list, m.coefficient(k)))
		q.Rows[k].Terms = terms
	}
	return m.solve(q, each(list, m.cost))
}

// coefficient returns the function that returns the coefficient of a column in a row of the master program.
func (m *master) coefficient(row int) func(c column) api.Rat {
	return func(c column) api.Rat {
		switch {
		case row < len(m.linking):
			return c.sums[row]
		case c.block == m.parts[row-len(m.linking)].block:
			return c.scale
		}
		return api.Rat{}
	}
}

// cost returns the cost of a column.
func (m *master) cost(c column) api.Rat {
	if c.block == artificial {
		return rational.From(1)
	}
	return linear.Cost(m.program, c.point)
}

// mixture returns the sum of the points of all columns times their weights.
func (m *master) mixture(weights []api.Rat) []api.Rat {
	x := make([]api.Rat, len(m.program.Vars))
	for k, c := range m.all() {
		if rational.Sign(weights[k]) == 0 {
			continue
		}
		for i, component := range c.point {
			x[i] = rational.Add(x[i], rational.Mul(weights[k], component))
		}
	}
	return x
}

// all returns all columns, those of a block one after the other.
func (m *master) all() []column {
	list := []column{}
	for _, block := range slices.Sorted(maps.Keys(m.columns)) {
		list = append(list, m.columns[block]...)
	}
	return list
}

// each returns what a function returns for columns.
func each(list []column, number func(c column) api.Rat) []api.Rat {
	out := []api.Rat{}
	for _, c := range list {
		out = append(out, number(c))
	}
	return out
}
