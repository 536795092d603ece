package simplex

import "math/bits"

// The places of the numbers of an equation; those of the columns follow.
const (
	scale    = 0
	constant = 1
	first    = 2
)

// equation expresses a variable by those of the columns: scale times the variable is the constant plus the sum of the numbers of the columns times what their variables are away from their values. The scale is positive, and the numbers have no common divisor.
type equation struct {
	small []int64
	mixed []number // in place of small, if some number is not small
	width int      // the absolute value of no small number is greater than 2 to the power of width
}

// newEquation returns the equation of a variable that is 0.
func newEquation(columns int) equation {
	e := equation{small: make([]int64, first+columns), width: 1}
	e.small[scale] = 1
	return e
}

// size returns the number of places.
func (e *equation) size() int {
	return len(e.small) + len(e.mixed)
}

// at returns the number at a place.
func (e *equation) at(place int) number {
	if e.mixed != nil {
		return e.mixed[place]
	}
	return number{small: e.small[place]}
}

// signAt returns the sign of the number at a place.
func (e *equation) signAt(place int) int {
	return sign(e.at(place))
}

// put sets the number at a place.
func (e *equation) put(place int, n number) {
	if n.large != nil {
		e.widen()
	}
	if e.mixed != nil {
		e.mixed[place] = n
		return
	}
	e.small[place] = n.small
	e.width = max(e.width, length(n.small))
}

// shift adds n times by to the number at a place.
func (e *equation) shift(place int, n number, by int64) {
	e.put(place, plus(e.at(place), times(n, number{small: by})))
}

// widen makes room for numbers of any size.
func (e *equation) widen() {
	if e.mixed != nil {
		return
	}
	for _, n := range e.small {
		e.mixed = append(e.mixed, number{small: n})
	}
	e.small = nil
}

// narrow returns to small numbers, if all of them are.
func (e *equation) narrow() {
	list := make([]int64, len(e.mixed))
	used := int64(0)
	for place, n := range e.mixed {
		if n.large != nil {
			return
		}
		list[place] = n.small
		used |= n.small ^ n.small>>63
	}
	e.small, e.mixed, e.width = list, nil, bits.Len64(uint64(used))
}

// add makes the equation that of its variable times p plus the variable of another equation times q, but with a scale that is only multiplied by p: the other variable is one of those by which this equation expressed its own.
func (e *equation) add(p number, other *equation, q number) {
	shared := common(p, q)
	p, q = quotient(p, shared), quotient(q, shared)
	fits := e.mixed == nil && other.mixed == nil && p.large == nil && q.large == nil
	if fits && max(length(p.small)+e.width, length(q.small)+other.width) < room {
		e.addSmall(p.small, other.small, q.small)
	} else {
		e.addMixed(p, other, q)
	}
	e.reduce()
}

// addSmall is add for numbers whose products and sums are small.
func (e *equation) addSmall(p int64, other []int64, q int64) {
	list := e.small[:len(other)]
	list[scale] *= p
	used := list[scale]
	for place := constant; place < len(list); place++ {
		n := p*list[place] + q*other[place]
		list[place] = n
		used |= n ^ n>>63
	}
	e.width = bits.Len64(uint64(used))
}

// addMixed is add for all numbers.
func (e *equation) addMixed(p number, other *equation, q number) {
	e.widen()
	e.mixed[scale] = times(p, e.mixed[scale])
	for place := constant; place < len(e.mixed); place++ {
		e.mixed[place] = plus(times(p, e.mixed[place]), times(q, other.at(place)))
	}
}

// reduce divides the numbers by what they have in common.
func (e *equation) reduce() {
	if e.mixed != nil {
		e.reduceMixed()
		return
	}
	shared := uint64(e.small[scale])
	for place := constant; place < len(e.small) && shared > 1; place++ {
		// Most numbers are 0, and most others have all divisors that the ones before them have.
		if n := magnitude(e.small[place]); n != 0 && n%shared != 0 {
			shared = divisor(shared, n%shared)
		}
	}
	if shared > 1 {
		for place, n := range e.small {
			if n != 0 {
				e.small[place] = n / int64(shared)
			}
		}
		e.width -= bits.Len64(shared) - 1
	}
}

// reduceMixed is reduce for all numbers. Most of them have the same divisors as the first ones, so that it is faster to divide and to begin again if there is a rest than to look for the divisor among all of them.
func (e *equation) reduceMixed() {
	shared, list := e.mixed[scale], make([]number, len(e.mixed))
	for place := scale; place < len(list); place++ {
		part, rest := divide(e.mixed[place], shared)
		if sign(rest) != 0 {
			shared = common(shared, rest)
			place = scale - 1
			continue
		}
		list[place] = part
	}
	e.mixed = list
	e.narrow()
}

// substitute replaces the variable at a place by what the equation of this variable makes of it.
func (e *equation) substitute(place int, other *equation) {
	factor := e.at(place)
	if sign(factor) != 0 {
		e.put(place, number{})
		e.add(other.at(scale), other, factor)
	}
}

// solve makes the equation, whose variable is to be that of a column from now on, that of the variable at a place.
func (e *equation) solve(place int) {
	old := e.at(scale)
	if e.signAt(place) > 0 {
		e.put(scale, e.at(place))
		e.negate()
	} else {
		e.put(scale, negative(e.at(place)))
		old = negative(old)
	}
	e.put(place, old)
}

// negate changes the signs of all numbers but the scale.
func (e *equation) negate() {
	for place := constant; place < e.size(); place++ {
		e.put(place, negative(e.at(place)))
	}
}
