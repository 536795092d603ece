package simplex

import "cmp"

// order compares two columns; the lesser one is taken.
type order func(column, other int) int

// stop is where a variable meets a bound while that of a column turns: after the way amount / rate.
type stop struct {
	line     *line // nil if it is the variable of the column itself
	variable int
	bound    int64
	amount   number
	rate     number
}

// descend exchanges variables that are within their bounds until none of the columns can make the cost fall, or returns a column by which it falls for ever, and true.
func (t *tableau) descend() (int, bool) {
	choose := t.steepest
	for {
		column, falls := t.falling(choose)
		if !falls {
			return 0, false
		}
		nearest, found := t.nearest(column)
		if !found {
			return column, true
		}
		// Where the cost stays the same, only the least variables are sure to lead out.
		choose = t.least
		if sign(nearest.amount) != 0 {
			choose = t.steepest
		}
		if nearest.line == nil {
			t.cross(column)
		} else {
			t.exchange(nearest.line, column, nearest.bound)
		}
	}
}

// steepest compares two columns by how fast they make the cost fall, the fastest first.
func (t *tableau) steepest(column, other int) int {
	one := number{small: 1}
	slower := compareProducts(t.cost.at(first+other), one, t.cost.at(first+column), one)
	return cmp.Or(slower, t.least(column, other))
}

// least compares two columns by their variables.
func (t *tableau) least(column, other int) int {
	return cmp.Compare(t.columns[column], t.columns[other])
}

// falling returns the first column, in an order, of those that make the cost fall, and false if there is none.
func (t *tableau) falling(choose order) (int, bool) {
	best, found := 0, false
	for column := range t.columns {
		falls := t.cost.signAt(first+column)*t.turn(column) < 0
		if falls && (!found || choose(column, best) < 0) {
			best, found = column, true
		}
	}
	return best, found
}

// nearest returns where the first variable meets a bound while that of a column turns, the least variable if there are several, and false if none does.
func (t *tableau) nearest(column int) (stop, bool) {
	best, found := t.own(column)
search:
	for _, l := range t.lines {
		next, ok := t.meets(l, column)
		if !ok {
			continue search
		}
		if found {
			later := compareProducts(next.amount, best.rate, best.amount, next.rate)
			if later > 0 || later == 0 && next.variable > best.variable {
				continue search
			}
		}
		best, found = next, true
	}
	return best, found
}

// own returns where the variable of a column meets its other bound, and false if it does not.
func (t *tableau) own(column int) (stop, bool) {
	b := t.bounds[t.columns[column]]
	if !b.hasLower || !b.hasUpper {
		return stop{}, false
	}
	return stop{variable: t.columns[column], amount: number{small: b.upper - b.lower}, rate: number{small: 1}}, true
}

// meets returns where the variable of a line meets a bound while that of a column turns, and false if it does not.
func (t *tableau) meets(l *line, column int) (stop, bool) {
	b, rate := t.bounds[l.variable], l.at(first+column)
	side := sign(rate) * t.turn(column)
	bound := b.upper
	if side < 0 {
		bound = b.lower
	}
	if side == 0 || side > 0 && !b.hasUpper || side < 0 && !b.hasLower {
		return stop{}, false
	}
	amount := minus(times(l.at(scale), number{small: bound}), l.at(constant))
	return stop{l, l.variable, bound, amount, rate}, true
}
