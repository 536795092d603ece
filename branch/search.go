package branch

import (
	"exodus/api"
	"exodus/linear"
	"exodus/rational"
	"exodus/simplex"
)

// search is the search for a solution of the least cost.
type search struct {
	program api.Program
	coarse  []api.Row // the rows from which cuts are made
	step    int64     // costs of solutions differ by multiples of it
	splits  int

	// The cheapest solution so far.
	found bool
	point []int64
	value int64
}

// node is a program of the search: that of the node above it with narrower bounds, and with further cuts.
type node struct {
	cuts     []api.Cut
	outcome  api.Outcome // of the relaxation with all cuts, those of the nodes above among them
	variable int         // at which it is split, if it has parts
	at       int64
	parts    [2]*node
}

// newSearch returns a search in which nothing is known yet.
func newSearch(p api.Program) *search {
	s := &search{program: p, step: 1}
	for _, row := range p.Rows {
		s.coarse = append(s.coarse, coarse(row))
	}
	if divisor := common(p.Vars); divisor > 1 && len(p.Rows)+reserved <= api.MaxRows {
		s.step = divisor
	}
	return s
}

// common returns the greatest common divisor of the costs.
func common(vars []api.Var) int64 {
	divisor := int64(0)
	for _, v := range vars {
		a, b := divisor, max(v.Cost, -v.Cost)
		for b != 0 {
			a, b = b, a%b
		}
		divisor = a
	}
	return divisor
}

// run explores the program, and returns its node. All nodes in which no part is left have outcomes that prove it.
func (s *search) run() (*node, api.Errno) {
	err := api.OK
	var explore func(p api.Program, o api.Outcome) *node
	explore = func(p api.Program, o api.Outcome) *node {
		n := &node{outcome: o}
		p = s.sharpen(p, n)
		x := n.outcome.Point
		// Later on, only the bound and its proof are needed.
		n.outcome.Point = nil
		if s.closed(n.outcome) {
			return n
		}
		best := s.choose(p, x)
		n.variable, n.at = best.variable, best.at
		// The tries may have found a solution after which nothing is left to do here.
		if s.closed(n.outcome) {
			return n
		}
		if s.splits == api.MaxBranch {
			err = api.ErrLimit
			return n
		}
		s.splits++
		for _, i := range best.order() {
			n.parts[i] = explore(best.programs[i], best.outcomes[i])
			if err != api.OK || s.closed(n.outcome) {
				return n
			}
		}
		return n
	}
	root := explore(s.program, s.relax(s.program))
	return root, err
}

// relax returns the outcome of a program's relaxation, and takes its point if it is a solution.
func (s *search) relax(p api.Program) api.Outcome {
	o, _ := simplex.Solve(p)
	if o.Kind == api.Optimal && linear.Integral(p, o.Point) {
		s.take(o)
	}
	return o
}

// take keeps the point of an outcome if it costs less than the best one.
func (s *search) take(o api.Outcome) {
	value, _ := rational.Int64(o.Value)
	if s.found && value >= s.value {
		return
	}
	s.found, s.value, s.point = true, value, nil
	for _, x := range o.Point {
		n, _ := rational.Int64(x)
		s.point = append(s.point, n)
	}
}

// closed reports whether an outcome proves that no point of its program is a solution that costs less than the best one.
func (s *search) closed(o api.Outcome) bool {
	if o.Kind == api.Infeasible {
		return true
	}
	return s.found && rational.Cmp(o.Value, rational.From(s.value-s.step)) > 0
}
