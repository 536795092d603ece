package simplex

import (
	"slices"

	"exodus/api"
)

// batch is how many rows are entered at a time: with few, the tableau stays small; with many, there are fewer rounds.
const batch = 10

// position is a list of fractions with a common denominator, scale. With the scale 0 it is a direction instead of a point.
type position struct {
	numbers []number
	scale   number
}

// fractions returns the components of a point or of a direction, which may be of any length.
func (x position) fractions() []api.Rat {
	below := x.scale
	if sign(below) == 0 {
		below = number{small: 1}
	}
	list := []api.Rat{}
	for _, n := range x.numbers {
		list = append(list, fraction(n, below))
	}
	return list
}

// point returns the values of the program's variables.
func (t *tableau) point() position {
	list, below := t.together(func(l *line) number {
		return l.at(constant)
	}, func(column int) number {
		return number{small: t.values[column]}
	})
	return position{list, below}
}

// ray returns the direction of the program's variables while that of a column turns.
func (t *tableau) ray(turning int) position {
	turn := number{small: int64(t.turn(turning))}
	list, _ := t.together(func(l *line) number {
		return times(turn, l.at(first+turning))
	}, func(column int) number {
		if column == turning {
			return turn
		}
		return number{}
	})
	return position{numbers: list}
}

// together returns numbers of the program's variables and their common denominator: of those of the lines what over returns, divided by the scale, of those of the columns what whole returns.
func (t *tableau) together(over func(l *line) number, whole func(column int) number) ([]number, number) {
	list, below := make([]number, len(t.program.Vars)), number{small: 1}
	own := t.program.Vars
	for _, l := range t.lines {
		if l.variable < len(own) {
			below = times(below, quotient(l.at(scale), common(below, l.at(scale))))
		}
	}
	for _, l := range t.lines {
		if l.variable < len(own) {
			list[l.variable] = times(over(l), quotient(below, l.at(scale)))
		}
	}
	for column, variable := range t.columns {
		if variable < len(own) {
			list[variable] = times(whole(column), below)
		}
	}
	return list, below
}

// short is such that the sum of MaxVars numbers with less bits is small.
const short = room - 9

// sum returns the sum of terms at a point or at a direction, times the scale.
func (x position) sum(terms []api.Term) number {
	total, rest := int64(0), number{}
	for _, term := range terms {
		n := x.numbers[term.Var]
		switch {
		case n.large == nil && n.small == 0:
			// Most components are 0 in many programs.
		case n.large == nil && length(n.small)+length(term.Coef) < short:
			total += n.small * term.Coef
		default:
			rest = plus(rest, times(n, number{small: term.Coef}))
		}
	}
	return plus(number{small: total}, rest)
}

// excess is how far the sum of a row is beyond its bound.
type excess struct {
	row    int
	amount number
}

// admit enters some of the rows that a point or a direction violates, and reports whether there are any.
func (t *tableau) admit(x position) bool {
	violated := t.violated(x)
	if len(violated) == 0 {
		return false
	}
	slices.SortStableFunc(violated, func(a, b excess) int {
		one := number{small: 1}
		return compareProducts(b.amount, one, a.amount, one)
	})
	rows := []int{}
	for _, e := range violated[:min(batch, len(violated))] {
		rows = append(rows, e.row)
	}
	t.enter(rows)
	return true
}

// violated returns the rows that have not been entered and that a point or a direction violates.
func (t *tableau) violated(x position) []excess {
	list := []excess{}
search:
	for i, row := range t.program.Rows {
		if t.entered[i] {
			continue search
		}
		amount := plus(x.sum(row.Terms), negative(times(number{small: row.Bound}, x.scale)))
		side := sign(amount)
		if side > 0 && row.Kind != api.Ge || side < 0 && row.Kind != api.Le {
			list = append(list, excess{i, amount})
		}
	}
	return list
}
