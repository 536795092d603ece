package branch

import (
	"slices"

	"exodus/api"
	"exodus/cuts"
	"exodus/rational"
)

const (
	rounds   = 5  // how often cuts are added at a node
	batch    = 30 // how many cuts are added at a time
	reserved = 2  // rows that the proof needs for itself
)

// sharpen adds cuts to a program, and to its node, until the relaxation violates none or takes no more of them, and returns the program with those that count.
func (s *search) sharpen(p api.Program, n *node) api.Program {
	q, list := api.Program{Vars: p.Vars, Rows: slices.Clip(p.Rows)}, []api.Cut{}
	for range rounds {
		if s.closed(n.outcome) {
			break
		}
		found, rows := s.separate(p.Vars, n.outcome.Point)
		found = found[:max(0, min(len(found), api.MaxRows-reserved-len(q.Rows)))]
		if len(found) == 0 {
			break
		}
		list, q.Rows = append(list, found...), append(q.Rows, rows[:len(found)]...)
		n.outcome = s.relax(q)
	}
	return n.keep(p, q.Rows[len(p.Rows):], list)
}

// keep takes the cuts with multipliers into the node, and returns the program with their rows. What no multiplier needs would only make the relaxations of the parts slower, and the proof longer.
func (n *node) keep(p api.Program, rows []api.Row, list []api.Cut) api.Program {
	base := len(p.Rows)
	q := api.Program{Vars: p.Vars, Rows: slices.Clip(p.Rows)}
	y := slices.Clone(n.outcome.Multipliers[:base])
	for i, cut := range list {
		if multiplier := n.outcome.Multipliers[base+i]; rational.Sign(multiplier) != 0 {
			n.cuts = append(n.cuts, cut)
			q.Rows = append(q.Rows, rows[i])
			y = append(y, multiplier)
		}
	}
	n.outcome.Multipliers = y
	return q
}

// separate returns some different cuts that a point violates, and their rows. They are made from rows of the program only, whose indices are the same at all nodes.
func (s *search) separate(vars []api.Var, x []api.Rat) ([]api.Cut, []api.Row) {
	p := api.Program{Vars: vars, Rows: s.coarse}
	list, rows := []api.Cut{}, []api.Row{}
	for _, cut := range cuts.Separate(p, x) {
		row, _ := cuts.Derive(p, cut)
		equal := func(other api.Row) bool {
			return row.Kind == other.Kind && row.Bound == other.Bound && slices.Equal(row.Terms, other.Terms)
		}
		if len(list) < batch && !slices.ContainsFunc(rows, equal) {
			list, rows = append(list, cut), append(rows, row)
		}
	}
	return list, rows
}

// coarse returns a row, or an empty one in its place if all its coefficients are 1 or -1: a point that satisfies such a row violates none of its cuts.
func coarse(row api.Row) api.Row {
	for _, term := range row.Terms {
		if term.Coef < -1 || term.Coef > 1 {
			return row
		}
	}
	return api.Row{}
}
