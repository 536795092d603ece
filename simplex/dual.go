package simplex

// breach is a line whose variable is beyond one of its bounds.
type breach struct {
	line   *line
	side   int // 1 if the variable has to rise, -1 if it has to fall
	bound  int64
	amount number // how far the variable is beyond the bound, times the scale of the line
}

// repair exchanges variables until all are within their bounds, or returns the breach of a line that no column can mend, and true. If the variables of the columns are where they cost least, this stays so.
func (t *tableau) repair() (breach, bool) {
	t.refresh()
	costs, careful := t.costs(), false
	for {
		found, broken := t.greatest(careful)
		if !broken {
			return breach{}, false
		}
		column, ok := t.mending(found, t.cheapest(costs, found.line))
		if !ok {
			return found, true
		}
		// Where the costs stay the same, only the least line and the least column are sure to lead out.
		careful = true
		for _, cost := range costs {
			careful = careful && cost.signAt(first+column) == 0
		}
		t.exchange(found.line, column, found.bound)
	}
}

// costs returns the costs that are least where the variables of the columns are: the first one decides, the second one if it is the same.
func (t *tableau) costs() []*line {
	if _, falls := t.falling(t.least); falls {
		return []*line{t.spare}
	}
	return []*line{t.cost, t.spare}
}

// cheapest returns the order of columns by how much the costs rise while a line is mended; of equal ones, that of the least variable is the first.
func (t *tableau) cheapest(costs []*line, l *line) order {
	return func(column, other int) int {
		for _, cost := range costs {
			rise := compareProducts(cost.at(first+column), l.at(first+other), cost.at(first+other), l.at(first+column))
			if rise != 0 {
				return rise
			}
		}
		return t.least(column, other)
	}
}

// greatest returns the breach that goes farthest, or, if careful, that of the least variable; and false if there is none.
func (t *tableau) greatest(careful bool) (breach, bool) {
	worst, broken := breach{}, false
search:
	for _, l := range t.lines {
		found, ok := t.breached(l)
		if !ok || broken && !found.precedes(worst, careful) {
			continue search
		}
		worst, broken = found, true
	}
	return worst, broken
}

// precedes reports whether a breach is to be mended before another one.
func (b breach) precedes(other breach, careful bool) bool {
	if careful {
		return b.line.variable < other.line.variable
	}
	return compareProducts(b.amount, other.line.at(scale), other.amount, b.line.at(scale)) > 0
}

// breached returns the breach of a line, and false if its variable is within its bounds.
func (t *tableau) breached(l *line) (breach, bool) {
	b, value := t.bounds[l.variable], l.at(constant)
	if b.hasLower {
		missing := minus(times(l.at(scale), number{small: b.lower}), value)
		if sign(missing) > 0 {
			return breach{l, 1, b.lower, missing}, true
		}
	}
	if b.hasUpper {
		excess := minus(value, times(l.at(scale), number{small: b.upper}))
		if sign(excess) > 0 {
			return breach{l, -1, b.upper, excess}, true
		}
	}
	return breach{}, false
}

// mending returns the first column, in an order, of those that mend a breach, and false if there is none.
func (t *tableau) mending(b breach, choose order) (int, bool) {
	best, found := 0, false
	for column := range t.columns {
		helps := b.line.signAt(first+column)*t.turn(column) == b.side
		if helps && (!found || choose(column, best) < 0) {
			best, found = column, true
		}
	}
	return best, found
}
