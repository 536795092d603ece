package simplex

import "exodus/api"

// bounds are the limits of a variable; one of them may be missing.
type bounds struct {
	lower, upper       int64
	hasLower, hasUpper bool
}

// line is the equation of a variable, or that of a cost.
type line struct {
	variable int
	equation
}

// noVariable takes the place of the variable in the equation of a cost.
const noVariable = -1

// tableau is a system of equations. Its variables are those of a program and the sums of its rows: the sum of row i has the number i plus the number of the program's variables. Rows that have not been entered are not part of the system.
type tableau struct {
	program api.Program
	bounds  []bounds // of all variables
	columns []int    // the variables by which the others are expressed
	values  []int64  // for each column the value of its variable, which is one of its bounds
	lines   []*line
	cost    *line
	spare   *line // the cost that decides between columns which cost the same
	entered map[int]bool
}

// newTableau returns the tableau of a program into which no row is entered. Each variable is where it costs least, or at its lower bound if it is open.
func newTableau(p api.Program) *tableau {
	cost := &line{noVariable, newEquation(len(p.Vars))}
	t := &tableau{program: p, cost: cost, entered: map[int]bool{}}
	for i, v := range p.Vars {
		value := v.Lower
		if v.Cost < 0 && !v.Open {
			value = v.Upper
		}
		t.bounds = append(t.bounds, bounds{v.Lower, v.Upper, true, !v.Open})
		t.columns = append(t.columns, i)
		t.values = append(t.values, value)
		cost.put(first+i, number{small: v.Cost})
		cost.shift(constant, number{small: v.Cost}, value)
	}
	for _, row := range p.Rows {
		t.bounds = append(t.bounds, bounds{row.Bound, row.Bound, row.Kind != api.Le, row.Kind != api.Ge})
	}
	return t
}

// refresh chooses the spare cost anew, such that each variable of a column is where it costs least. Equal costs of many columns would let the search make many exchanges without any progress, so they are all different, and follow no pattern that a program may have.
func (t *tableau) refresh() {
	t.spare = &line{noVariable, newEquation(len(t.columns))}
	for column, variable := range t.columns {
		weight := int64(uint32(variable+1)*2654435769>>20) + 1
		t.spare.put(first+column, number{small: weight * int64(t.turn(column))})
	}
}

// turn returns 1 if the variable of a column can rise, -1 if it can fall, and 0 if its bounds are equal.
func (t *tableau) turn(column int) int {
	b, value := t.bounds[t.columns[column]], t.values[column]
	switch {
	case !b.hasUpper || value < b.upper:
		return 1
	case !b.hasLower || value > b.lower:
		return -1
	}
	return 0
}

// all returns the lines and those of the costs.
func (t *tableau) all() []*line {
	return append([]*line{t.cost, t.spare}, t.lines...)
}

// exchange lets the variable of a line, which takes a value, and that of a column change places.
func (t *tableau) exchange(l *line, column int, value int64) {
	place := first + column
	l.shift(constant, l.at(scale), -value)
	l.solve(place)
	for _, other := range t.all() {
		if other != l {
			other.substitute(place, &l.equation)
		}
	}
	// Until now, the equation was that of the difference to the column's value.
	l.shift(constant, l.at(scale), t.values[column])
	l.reduce()
	l.variable, t.columns[column] = t.columns[column], l.variable
	t.values[column] = value
}

// cross moves the variable of a column to its other bound.
func (t *tableau) cross(column int) {
	b := t.bounds[t.columns[column]]
	way := (b.upper - b.lower) * int64(t.turn(column))
	for _, l := range t.all() {
		l.shift(constant, l.at(first+column), way)
	}
	t.values[column] += way
}

// enter adds the equations of the sums of rows.
func (t *tableau) enter(rows []int) {
	columns, lines := map[int]int{}, map[int]*line{}
	for column, variable := range t.columns {
		columns[variable] = column
	}
	for _, l := range t.lines {
		lines[l.variable] = l
	}
	for _, row := range rows {
		sum := &line{len(t.program.Vars) + row, newEquation(len(t.columns))}
		for _, term := range t.program.Rows[row].Terms {
			coef := times(sum.at(scale), number{small: term.Coef})
			if l, ok := lines[term.Var]; ok {
				sum.add(l.at(scale), &l.equation, coef)
				continue
			}
			column := columns[term.Var]
			sum.shift(first+column, coef, 1)
			sum.shift(constant, coef, t.values[column])
		}
		t.lines = append(t.lines, sum)
		t.entered[row] = true
	}
}
