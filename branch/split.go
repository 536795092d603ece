package branch

import (
	"cmp"
	"slices"

	"exodus/api"
	"exodus/rational"
)

// How many splits are tried at a node before one is chosen. In a long search, it takes less time to make bad splits than to find good ones.
const (
	mostTries = 8
	fewer     = 100 // after so many splits, one less is tried
)

// split is a split of a program, with the outcomes of the parts' relaxations.
type split struct {
	variable int
	at       int64
	programs [2]api.Program
	outcomes [2]api.Outcome
}

// choose returns a split of a program at a component of a point that is not an integer.
func (s *search) choose(p api.Program, x []api.Rat) split {
	tries := max(1, mostTries-s.splits/fewer)
	best := split{}
	for i, v := range fractional(x) {
		if i == tries {
			break
		}
		next := s.attempt(p, v, x[v])
		// If one of the parts is done, nothing can be better: the other one is all that is left.
		if s.closed(next.outcomes[0]) || s.closed(next.outcomes[1]) {
			return next
		}
		if i == 0 || next.compare(best) > 0 {
			best = next
		}
	}
	return best
}

// fractional returns the components of a point that are not integers, those nearest to the middle between two integers first.
func fractional(x []api.Rat) []int {
	list, distances := []int{}, map[int]api.Rat{}
	half, _ := rational.Frac(1, 2)
	for i, component := range x {
		floor := api.Rat{Num: rational.Floor(component)}
		rest := rational.Sub(component, floor)
		if rational.Sign(rest) == 0 {
			continue
		}
		distance := rational.Sub(rest, half)
		if rational.Sign(distance) < 0 {
			distance = rational.Neg(distance)
		}
		list, distances[i] = append(list, i), distance
	}
	slices.SortStableFunc(list, func(a, b int) int { return rational.Cmp(distances[a], distances[b]) })
	return list
}

// attempt returns the split of a program at a variable that has a value which is not an integer.
func (s *search) attempt(p api.Program, v int, value api.Rat) split {
	at, _ := rational.Int64(api.Rat{Num: rational.Floor(value)})
	next := split{variable: v, at: at}
	for i := range next.programs {
		// The rows are shared: the search never changes them.
		part := api.Program{Vars: slices.Clone(p.Vars), Rows: p.Rows}
		if i == 0 {
			part.Vars[v].Upper = at
		} else {
			part.Vars[v].Lower = at + 1
		}
		next.programs[i], next.outcomes[i] = part, s.relax(part)
	}
	return next
}

// compare compares two splits by the lesser bounds of their parts, equal ones by the greater bounds.
func (b split) compare(other split) int {
	low, high := b.bounds()
	otherLow, otherHigh := other.bounds()
	return cmp.Or(rational.Cmp(low, otherLow), rational.Cmp(high, otherHigh))
}

// bounds returns the bounds of the parts, the lesser one first.
func (b split) bounds() (api.Rat, api.Rat) {
	order := b.order()
	return b.outcomes[order[0]].Value, b.outcomes[order[1]].Value
}

// order returns the parts in the order in which they are explored: solutions are sought where they cost less, and, if that does not tell, where a variable is greater, which decides more about the others.
func (b split) order() [2]int {
	low, high := b.outcomes[0], b.outcomes[1]
	if high.Kind == api.Infeasible || low.Kind == api.Optimal && rational.Cmp(low.Value, high.Value) < 0 {
		return [2]int{0, 1}
	}
	return [2]int{1, 0}
}
