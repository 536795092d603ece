package branch

import (
	"slices"

	"exodus/api"
	"exodus/rational"
)

// proof returns the proof that there is no solution, or none that costs less than the best one. In the second case, the row of the cost is behind those of the program; if all costs have a common divisor, a cut follows that divides this row by it.
func (s *search) proof(root *node) []api.Node {
	list, base := []api.Node{}, len(s.program.Rows)
	if s.found && s.step > 1 {
		y := make([]api.Rat, base+1)
		y[base], _ = rational.Frac(-1, s.step)
		list = append(list, api.Node{Kind: api.NodeCut, Cut: api.Cut{Kind: api.CutRound, Multipliers: y}})
	}
	var collect func(n *node)
	collect = func(n *node) {
		for _, cut := range n.cuts {
			list = append(list, api.Node{Kind: api.NodeCut, Cut: cut})
		}
		// Since it was explored, solutions may have been found that are better than all of the node.
		if s.closed(n.outcome) {
			y := slices.Insert(slices.Clone(n.outcome.Multipliers), base, s.further(n.outcome)...)
			list = append(list, api.Node{Kind: api.NodeFarkas, Multipliers: trimmed(y)})
			return
		}
		list = append(list, api.Node{Kind: api.NodeSplit, Var: n.variable, At: n.at})
		collect(n.parts[0])
		collect(n.parts[1])
	}
	collect(root)
	return list
}

// further returns the multipliers of the rows that the proof has between those of the program and the cuts. If an outcome has a bound that is too great, its multipliers and that of the cost prove together that nothing is left.
func (s *search) further(o api.Outcome) []api.Rat {
	needed := o.Kind == api.Optimal
	switch {
	case !s.found:
		return nil
	case s.step > 1 && needed:
		return []api.Rat{{}, rational.From(s.step)}
	case s.step > 1:
		return []api.Rat{{}, {}}
	case needed:
		return []api.Rat{rational.From(-1)}
	}
	return []api.Rat{{}}
}

// trimmed returns multipliers without the zeros at their end.
func trimmed(y []api.Rat) []api.Rat {
	for len(y) > 0 && rational.Sign(y[len(y)-1]) == 0 {
		y = y[:len(y)-1]
	}
	return y
}
